/- The statement TwinRefuses is proved for every input, from contracts of the functions that it calls; no condition is added. -/
import Derived.Test.YtmjjgaldbnhdfaaTw8
namespace Go.Proofs.Ytmjjgaldbnhdfaa.LTwinRefuses
open Go.Joins Go.ChangeShapes Go.WideShapes Go.ChangeAt Go.RowKit Go.Deep
set_option linter.unusedVariables false
set_option linter.unusedSimpArgs false

set_option maxRecDepth 100000 in
set_option maxHeartbeats 8000000 in
theorem walk_no (N : Int) (A0 A1 : Option Addr) (n0 n1 c0 c1 : Nat) (s a l x y : Int) (A : Int) (hfew : fewr N n0 n1 s a l x y = false) (w : World) :
    Calls Try.prog 5 #[.agg #[.int .i64 N, .slice A0 n0 c0, .slice A1 n1 c1, .int .i64 s, .int .i64 a, .int .i64 l, .int .i64 x, .int .i64 y], .int .u64 A] w (fun e w' => e = .returned (.bool true) ∧ Up w w') := by
  have hf := fun w => fewr_any N s a l x y A0 A1 n0 n1 c0 c1 w
  rw [hfew] at hf
  have hf := Lib.hid hf
  go_enter Try.func5, Try.ntmps5
  go_wp2_with (fail)
  refine calls_at (fun V1 hV => ?_)
  have kv : Up w V1 := by rw [hV]; (repeat (first | with_reducible exact Up.refl _ | with_reducible refine Up.alloc ?_ _ | with_reducible refine Up.drew ?_ | refine Up.setCell ?_ (by simp <;> omega) _))
  have Xv : Blk V1 (w.heap.size) 31 #[.int .i64 N, .slice A0 n0 c0, .slice A1 n1 c1, .int .i64 s, .int .i64 a, .int .i64 l, .int .i64 x, .int .i64 y] := by rw [hV]; (repeat (first | with_reducible exact Blk.new' _ (by simp) _ _ | with_reducible refine Blk.alloc ?_ _ | with_reducible refine Blk.drew ?_ | refine Blk.far ?_ (by simp <;> omega) _))
  have Uv : Up w V1 := kv
  clear hV kv 
  refine (shown11 _).mono ?_
  rintro e w1 ⟨rfl, k1⟩
  have X1 := Xv.up k1
  have U1 := Uv.trans k1
  clear k1 Uv Xv 
  have X1c := X1.cell
  have X1f := X1.frozen
  have X1l := X1.lt
  go_wp2_with (fail)
  refine calls_at (fun V2 hV => ?_)
  have kv : Up w1 V2 := by rw [hV]; (repeat (first | with_reducible exact Up.refl _ | with_reducible refine Up.alloc ?_ _ | with_reducible refine Up.drew ?_ | refine Up.setCell ?_ (by simp <;> omega) _))
  have Xv := X1.up kv
  have Uv : Up w V2 := U1.trans kv
  clear hV kv X1 X1c X1f X1l U1
  refine (hf.out _).mono ?_
  rintro e w2 ⟨rfl, k2⟩
  have X2 := Xv.up k2
  have U2 := Uv.trans k2
  clear k2 Uv Xv 
  have X2c := X2.cell
  have X2f := X2.frozen
  have X2l := X2.lt
  go_wp2
  go_ret
  refine ⟨rfl, ?_⟩
  (repeat (first | with_reducible exact U2 | with_reducible refine Up.alloc ?_ _ | with_reducible refine Up.drew ?_ | refine Up.setCell ?_ (by simp <;> omega) _))

set_option maxRecDepth 100000 in
set_option maxHeartbeats 8000000 in
theorem walk_ok (m : Me) (P Q : Addr) (c d : Nat) (s a l x y : Int) (A : Int) (w : World) (hm : Sits w m P Q c d) (hwf : m.wf) (hn : m.n ≤ 200) (hr : rgt s a l) (hl : l = m.n) (hp : (x = 0 ∧ y = 0) ∨ (0 ≤ x ∧ x ≤ y ∧ y ≤ a)) (hA : U64 A) (h0 : A ≠ 0) (K : Me) (a' b : Int) (ht : toa m s a l A = ⟨K, a', b, 0⟩) :
    Calls Try.prog 5 #[.agg #[.int .i64 m.n, .slice (some P) m.n c, .slice (some Q) m.n d, .int .i64 s, .int .i64 a, .int .i64 l, .int .i64 x, .int .i64 y], .int .u64 A] w (fun e w' => e = .returned (.bool true) ∧ Up w w') := by
  have hf := fun w => fewr_any m.n s a l x y (some P) (some Q) m.n m.n c d w
  rw [fewr_ok m s a l x y hm.1 hn hr hl hp] at hf
  have hf := Lib.hid hf
  have hT := Lib.hid (show ∀ (W : World) (U : Up w W), Calls Try.prog 9 #[rov m.n (sl P m.n c) (sl Q m.n d) s a l x y, .int .u64 A] W (fun e w' => ∃ (P' Q' : Addr) (c' d' : Nat), e = .returned (.tuple #[rov K.n (sl P' K.n c') (sl Q' K.n d') s a' l x y, .int .u64 b, .int .i64 0]) ∧ Sits w' K P' Q' c' d' ∧ Up W w') from fun W U => by
    have q := to_any m s a l x y A P Q c d W (hm.up U) hA hwf hr hl
    rw [ht] at q
    exact q.mono fun e w' ⟨P', Q', c', d', h1, h2, h3, _⟩ => ⟨P', Q', c', d', h1, h2, h3⟩)
  have d0 : (A != 0) = true := bne_iff_ne.mpr h0
  clear h0
  have hE := Lib.hid (show ∀ (W : World) (U : Up w W), Calls Try.prog 12 #[rov m.n (sl P m.n c) (sl Q m.n d) s a l x y, .slice none 0 0] W (fun e w' => ∃ (P' Q' : Addr) (c' d' : Nat) (A' : Option Addr) (k' : Nat), e = .returned (.tuple #[rov m.n (sl P' m.n c') (sl Q' m.n d') s a l x y, .slice A' 0 k', .int .i64 0]) ∧ Sits w' m P' Q' c' d' ∧ Up W w') from fun W U => by
    refine (each_any m s a l x y P Q c d none 0 0 [] W (hm.up U) hwf hr hl ⟨rfl, fun q => absurd q (by simp)⟩ (by simp) (by simp)).mono ?_
    rintro e w' ⟨P', Q', c', d', A', n', k', rfl, h1, h2, h3, _⟩
    obtain rfl : n' = 0 := (h3 rfl).1.symm
    exact ⟨P', Q', c', d', A', k', rfl, h1, h2⟩)
  have HM := Lib.hid hm
  clear hm hwf hn hr hl hp hA ht
  go_enter Try.func5, Try.ntmps5
  go_wp2_with (fail)
  refine calls_at (fun V1 hV => ?_)
  have kv : Up w V1 := by rw [hV]; (repeat (first | with_reducible exact Up.refl _ | with_reducible refine Up.alloc ?_ _ | with_reducible refine Up.drew ?_ | refine Up.setCell ?_ (by simp <;> omega) _))
  have Xv : Blk V1 (w.heap.size) 31 #[.int .i64 m.n, .slice (some P) m.n c, .slice (some Q) m.n d, .int .i64 s, .int .i64 a, .int .i64 l, .int .i64 x, .int .i64 y] := by rw [hV]; (repeat (first | with_reducible exact Blk.new' _ (by simp) _ _ | with_reducible refine Blk.alloc ?_ _ | with_reducible refine Blk.drew ?_ | refine Blk.far ?_ (by simp <;> omega) _))
  have Uv : Up w V1 := kv
  clear hV kv 
  refine (shown11 _).mono ?_
  rintro e w1 ⟨rfl, k1⟩
  have X1 := Xv.up k1
  have U1 := Uv.trans k1
  clear k1 Uv Xv 
  have X1c := X1.cell
  have X1f := X1.frozen
  have X1l := X1.lt
  go_wp2_with (fail)
  refine calls_at (fun V2 hV => ?_)
  have kv : Up w1 V2 := by rw [hV]; (repeat (first | with_reducible exact Up.refl _ | with_reducible refine Up.alloc ?_ _ | with_reducible refine Up.drew ?_ | refine Up.setCell ?_ (by simp <;> omega) _))
  have Xv := X1.up kv
  have Uv : Up w V2 := U1.trans kv
  clear hV kv X1 X1c X1f X1l U1
  refine (hf.out _).mono ?_
  rintro e w2 ⟨rfl, k2⟩
  have X2 := Xv.up k2
  have U2 := Uv.trans k2
  clear k2 Uv Xv 
  have X2c := X2.cell
  have X2f := X2.frozen
  have X2l := X2.lt
  go_wp2_with (fail)
  refine calls_at (fun V3 hV => ?_)
  have kv : Up w2 V3 := by rw [hV]; (repeat (first | with_reducible exact Up.refl _ | with_reducible refine Up.alloc ?_ _ | with_reducible refine Up.drew ?_ | refine Up.setCell ?_ (by simp <;> omega) _))
  have Xv := X2.up kv
  have Uv : Up w V3 := U2.trans kv
  clear hV kv X2 X2c X2f X2l U2
  refine (hT.out V3 Uv).mono ?_
  rintro e w3 ⟨P1, Q1, c1, d1, rfl, s13, k3⟩
  have X3 := Xv.up k3
  have U3 := Uv.trans k3
  clear k3 Uv Xv 
  have X3c := X3.cell
  have X3f := X3.frozen
  have X3l := X3.lt
  go_wp2_with (fail)
  refine calls_at (fun V4 hV => ?_)
  have kv : Up w3 V4 := by rw [hV]; (repeat (first | with_reducible exact Up.refl _ | with_reducible refine Up.alloc ?_ _ | with_reducible refine Up.drew ?_ | refine Up.setCell ?_ (by simp <;> omega) _))
  have Xv := X3.up kv
  have Yv : Blk V4 (w3.heap.size) 31 #[.int .i64 K.n, .slice (some P1) K.n c1, .slice (some Q1) K.n d1, .int .i64 s, .int .i64 a', .int .i64 l, .int .i64 x, .int .i64 y] := by rw [hV]; (repeat (first | with_reducible exact Blk.new' _ (by simp) _ _ | with_reducible refine Blk.alloc ?_ _ | with_reducible refine Blk.drew ?_ | refine Blk.far ?_ (by simp <;> omega) _))
  have Uv : Up w V4 := U3.trans kv
  have s1v := s13.up kv
  clear hV kv X3 X3c X3f X3l U3 s13
  refine (hE.out V4 Uv).mono ?_
  rintro e w4 ⟨P2, Q2, c2, d2, A2, k2_, rfl, s24, k4⟩
  have X4 := Xv.up k4
  have Y4 := Yv.up k4
  have U4 := Uv.trans k4
  have s14 := s1v.up k4
  clear k4 Uv Xv Yv s1v
  have X4c := X4.cell
  have X4f := X4.frozen
  have X4l := X4.lt
  have Y4c := Y4.cell
  have Y4f := Y4.frozen
  have Y4l := Y4.lt
  go_wp2_with (fail)
  refine calls_at (fun V5 hV => ?_)
  have kv : Up w4 V5 := by rw [hV]; (repeat (first | with_reducible exact Up.refl _ | with_reducible refine Up.alloc ?_ _ | with_reducible refine Up.drew ?_ | refine Up.setCell ?_ (by simp <;> omega) _))
  have Xv := X4.up kv
  have Yv := Y4.up kv
  have Zv : Blk V5 (w4.heap.size) 31 #[.int .i64 m.n, .slice (some P2) m.n c2, .slice (some Q2) m.n d2, .int .i64 s, .int .i64 a, .int .i64 l, .int .i64 x, .int .i64 y] := by rw [hV]; (repeat (first | with_reducible exact Blk.new' _ (by simp) _ _ | with_reducible refine Blk.alloc ?_ _ | with_reducible refine Blk.drew ?_ | refine Blk.far ?_ (by simp <;> omega) _))
  have Uv : Up w V5 := U4.trans kv
  have s1v := s14.up kv
  have s2v := s24.up kv
  clear hV kv X4 X4c X4f X4l Y4 Y4c Y4f Y4l U4 s14 s24
  refine (rosame_self m P2 Q2 P Q c2 d2 c d s a l x y V5 s2v (HM.out.up Uv)).mono ?_
  rintro e w5 ⟨rfl, k5⟩
  have X5 := Xv.up k5
  have Y5 := Yv.up k5
  have Z5 := Zv.up k5
  have U5 := Uv.trans k5
  have s15 := s1v.up k5
  have s25 := s2v.up k5
  clear k5 Uv Xv Yv Zv s1v s2v
  have X5c := X5.cell
  have X5f := X5.frozen
  have X5l := X5.lt
  have Y5c := Y5.cell
  have Y5f := Y5.frozen
  have Y5l := Y5.lt
  have Z5c := Z5.cell
  have Z5f := Z5.frozen
  have Z5l := Z5.lt
  go_wp2
  go_ret
  refine ⟨rfl, ?_⟩
  (repeat (first | with_reducible exact U5 | with_reducible refine Up.alloc ?_ _ | with_reducible refine Up.drew ?_ | refine Up.setCell ?_ (by simp <;> omega) _))

set_option maxRecDepth 100000 in
set_option maxHeartbeats 8000000 in
theorem walk_err (m : Me) (P Q : Addr) (c d : Nat) (s a l x y : Int) (A : Int) (w : World) (hm : Sits w m P Q c d) (hwf : m.wf) (hn : m.n ≤ 200) (hr : rgt s a l) (hl : l = m.n) (hp : (x = 0 ∧ y = 0) ∨ (0 ≤ x ∧ x ≤ y ∧ y ≤ a)) (hA : U64 A) (h0 : A ≠ 0) (er : Int) (h1 : er ≠ 0) (ht : toa m s a l A = ⟨m, a, 0, er⟩) :
    Calls Try.prog 5 #[.agg #[.int .i64 m.n, .slice (some P) m.n c, .slice (some Q) m.n d, .int .i64 s, .int .i64 a, .int .i64 l, .int .i64 x, .int .i64 y], .int .u64 A] w (fun e w' => e = .returned (.bool true) ∧ Up w w') := by
  have hf := fun w => fewr_any m.n s a l x y (some P) (some Q) m.n m.n c d w
  rw [fewr_ok m s a l x y hm.1 hn hr hl hp] at hf
  have hf := Lib.hid hf
  have hT := Lib.hid (show ∀ (W : World) (U : Up w W), Calls Try.prog 9 #[rov m.n (sl P m.n c) (sl Q m.n d) s a l x y, .int .u64 A] W (fun e w' => ∃ (P' Q' : Addr) (c' d' : Nat), e = .returned (.tuple #[rov m.n (sl P' m.n c') (sl Q' m.n d') s a l x y, .int .u64 0, .int .i64 er]) ∧ Sits w' m P' Q' c' d' ∧ Up W w') from fun W U => by
    have q := to_any m s a l x y A P Q c d W (hm.up U) hA hwf hr hl
    rw [ht] at q
    exact q.mono fun e w' ⟨P', Q', c', d', h1, h2, h3, _⟩ => ⟨P', Q', c', d', h1, h2, h3⟩)
  have d0 : (A != 0) = true := bne_iff_ne.mpr h0
  clear h0
  have d1 : (er == 0) = false := beq_eq_false_iff_ne.mpr h1
  clear h1
  have hE := Lib.hid (show ∀ (W : World) (U : Up w W), Calls Try.prog 12 #[rov m.n (sl P m.n c) (sl Q m.n d) s a l x y, .slice none 0 0] W (fun e w' => ∃ (P' Q' : Addr) (c' d' : Nat) (A' : Option Addr) (k' : Nat), e = .returned (.tuple #[rov m.n (sl P' m.n c') (sl Q' m.n d') s a l x y, .slice A' 0 k', .int .i64 0]) ∧ Sits w' m P' Q' c' d' ∧ Up W w') from fun W U => by
    refine (each_any m s a l x y P Q c d none 0 0 [] W (hm.up U) hwf hr hl ⟨rfl, fun q => absurd q (by simp)⟩ (by simp) (by simp)).mono ?_
    rintro e w' ⟨P', Q', c', d', A', n', k', rfl, h1, h2, h3, _⟩
    obtain rfl : n' = 0 := (h3 rfl).1.symm
    exact ⟨P', Q', c', d', A', k', rfl, h1, h2⟩)
  have HM := Lib.hid hm
  clear hm hwf hn hr hl hp hA ht
  go_enter Try.func5, Try.ntmps5
  go_wp2_with (fail)
  refine calls_at (fun V1 hV => ?_)
  have kv : Up w V1 := by rw [hV]; (repeat (first | with_reducible exact Up.refl _ | with_reducible refine Up.alloc ?_ _ | with_reducible refine Up.drew ?_ | refine Up.setCell ?_ (by simp <;> omega) _))
  have Xv : Blk V1 (w.heap.size) 31 #[.int .i64 m.n, .slice (some P) m.n c, .slice (some Q) m.n d, .int .i64 s, .int .i64 a, .int .i64 l, .int .i64 x, .int .i64 y] := by rw [hV]; (repeat (first | with_reducible exact Blk.new' _ (by simp) _ _ | with_reducible refine Blk.alloc ?_ _ | with_reducible refine Blk.drew ?_ | refine Blk.far ?_ (by simp <;> omega) _))
  have Uv : Up w V1 := kv
  clear hV kv 
  refine (shown11 _).mono ?_
  rintro e w1 ⟨rfl, k1⟩
  have X1 := Xv.up k1
  have U1 := Uv.trans k1
  clear k1 Uv Xv 
  have X1c := X1.cell
  have X1f := X1.frozen
  have X1l := X1.lt
  go_wp2_with (fail)
  refine calls_at (fun V2 hV => ?_)
  have kv : Up w1 V2 := by rw [hV]; (repeat (first | with_reducible exact Up.refl _ | with_reducible refine Up.alloc ?_ _ | with_reducible refine Up.drew ?_ | refine Up.setCell ?_ (by simp <;> omega) _))
  have Xv := X1.up kv
  have Uv : Up w V2 := U1.trans kv
  clear hV kv X1 X1c X1f X1l U1
  refine (hf.out _).mono ?_
  rintro e w2 ⟨rfl, k2⟩
  have X2 := Xv.up k2
  have U2 := Uv.trans k2
  clear k2 Uv Xv 
  have X2c := X2.cell
  have X2f := X2.frozen
  have X2l := X2.lt
  go_wp2_with (fail)
  refine calls_at (fun V3 hV => ?_)
  have kv : Up w2 V3 := by rw [hV]; (repeat (first | with_reducible exact Up.refl _ | with_reducible refine Up.alloc ?_ _ | with_reducible refine Up.drew ?_ | refine Up.setCell ?_ (by simp <;> omega) _))
  have Xv := X2.up kv
  have Uv : Up w V3 := U2.trans kv
  clear hV kv X2 X2c X2f X2l U2
  refine (hT.out V3 Uv).mono ?_
  rintro e w3 ⟨P1, Q1, c1, d1, rfl, s13, k3⟩
  have X3 := Xv.up k3
  have U3 := Uv.trans k3
  clear k3 Uv Xv 
  have X3c := X3.cell
  have X3f := X3.frozen
  have X3l := X3.lt
  go_wp2_with (fail)
  refine calls_at (fun V4 hV => ?_)
  have kv : Up w3 V4 := by rw [hV]; (repeat (first | with_reducible exact Up.refl _ | with_reducible refine Up.alloc ?_ _ | with_reducible refine Up.drew ?_ | refine Up.setCell ?_ (by simp <;> omega) _))
  have Xv := X3.up kv
  have Yv : Blk V4 (w3.heap.size) 31 #[.int .i64 m.n, .slice (some P1) m.n c1, .slice (some Q1) m.n d1, .int .i64 s, .int .i64 a, .int .i64 l, .int .i64 x, .int .i64 y] := by rw [hV]; (repeat (first | with_reducible exact Blk.new' _ (by simp) _ _ | with_reducible refine Blk.alloc ?_ _ | with_reducible refine Blk.drew ?_ | refine Blk.far ?_ (by simp <;> omega) _))
  have Uv : Up w V4 := U3.trans kv
  have s1v := s13.up kv
  clear hV kv X3 X3c X3f X3l U3 s13
  refine (hE.out V4 Uv).mono ?_
  rintro e w4 ⟨P2, Q2, c2, d2, A2, k2_, rfl, s24, k4⟩
  have X4 := Xv.up k4
  have Y4 := Yv.up k4
  have U4 := Uv.trans k4
  have s14 := s1v.up k4
  clear k4 Uv Xv Yv s1v
  have X4c := X4.cell
  have X4f := X4.frozen
  have X4l := X4.lt
  have Y4c := Y4.cell
  have Y4f := Y4.frozen
  have Y4l := Y4.lt
  go_wp2_with (fail)
  refine calls_at (fun V5 hV => ?_)
  have kv : Up w4 V5 := by rw [hV]; (repeat (first | with_reducible exact Up.refl _ | with_reducible refine Up.alloc ?_ _ | with_reducible refine Up.drew ?_ | refine Up.setCell ?_ (by simp <;> omega) _))
  have Xv := X4.up kv
  have Yv := Y4.up kv
  have Zv : Blk V5 (w4.heap.size) 31 #[.int .i64 m.n, .slice (some P2) m.n c2, .slice (some Q2) m.n d2, .int .i64 s, .int .i64 a, .int .i64 l, .int .i64 x, .int .i64 y] := by rw [hV]; (repeat (first | with_reducible exact Blk.new' _ (by simp) _ _ | with_reducible refine Blk.alloc ?_ _ | with_reducible refine Blk.drew ?_ | refine Blk.far ?_ (by simp <;> omega) _))
  have Uv : Up w V5 := U4.trans kv
  have s1v := s14.up kv
  have s2v := s24.up kv
  clear hV kv X4 X4c X4f X4l Y4 Y4c Y4f Y4l U4 s14 s24
  refine (rosame_self m P2 Q2 P Q c2 d2 c d s a l x y V5 s2v (HM.out.up Uv)).mono ?_
  rintro e w5 ⟨rfl, k5⟩
  have X5 := Xv.up k5
  have Y5 := Yv.up k5
  have Z5 := Zv.up k5
  have U5 := Uv.trans k5
  have s15 := s1v.up k5
  have s25 := s2v.up k5
  clear k5 Uv Xv Yv Zv s1v s2v
  have X5c := X5.cell
  have X5f := X5.frozen
  have X5l := X5.lt
  have Y5c := Y5.cell
  have Y5f := Y5.frozen
  have Y5l := Y5.lt
  have Z5c := Z5.cell
  have Z5f := Z5.frozen
  have Z5l := Z5.lt
  go_wp2_with (fail)
  refine calls_at (fun V6 hV => ?_)
  have kv : Up w5 V6 := by rw [hV]; (repeat (first | with_reducible exact Up.refl _ | with_reducible refine Up.alloc ?_ _ | with_reducible refine Up.drew ?_ | refine Up.setCell ?_ (by simp <;> omega) _))
  have Xv := X5.up kv
  have Yv := Y5.up kv
  have Zv := Z5.up kv
  have Uv : Up w V6 := U5.trans kv
  have s1v := s15.up kv
  have s2v := s25.up kv
  clear hV kv X5 X5c X5f X5l Y5 Y5c Y5f Y5l Z5 Z5c Z5f Z5l U5 s15 s25
  refine (rosame_self m P1 Q1 P Q c1 d1 c d s a l x y V6 s1v (HM.out.up Uv)).mono ?_
  rintro e w6 ⟨rfl, k6⟩
  have X6 := Xv.up k6
  have Y6 := Yv.up k6
  have Z6 := Zv.up k6
  have U6 := Uv.trans k6
  have s16 := s1v.up k6
  have s26 := s2v.up k6
  clear k6 Uv Xv Yv Zv s1v s2v
  have X6c := X6.cell
  have X6f := X6.frozen
  have X6l := X6.lt
  have Y6c := Y6.cell
  have Y6f := Y6.frozen
  have Y6l := Y6.lt
  have Z6c := Z6.cell
  have Z6f := Z6.frozen
  have Z6l := Z6.lt
  go_wp2
  go_ret
  refine ⟨rfl, ?_⟩
  (repeat (first | with_reducible exact U6 | with_reducible refine Up.alloc ?_ _ | with_reducible refine Up.drew ?_ | refine Up.setCell ?_ (by simp <;> omega) _))

set_option maxRecDepth 100000 in
set_option maxHeartbeats 8000000 in
theorem walk_zero (m : Me) (P Q : Addr) (c d : Nat) (s a l x y : Int) (A : Int) (w : World) (hm : Sits w m P Q c d) (hwf : m.wf) (hn : m.n ≤ 200) (hr : rgt s a l) (hl : l = m.n) (hp : (x = 0 ∧ y = 0) ∨ (0 ≤ x ∧ x ≤ y ∧ y ≤ a)) (hA : U64 A) (h0 : A = 0) (ht : toa m s a l A = ⟨m, a, 0, 0⟩) :
    Calls Try.prog 5 #[.agg #[.int .i64 m.n, .slice (some P) m.n c, .slice (some Q) m.n d, .int .i64 s, .int .i64 a, .int .i64 l, .int .i64 x, .int .i64 y], .int .u64 A] w (fun e w' => e = .returned (.bool true) ∧ Up w w') := by
  have hf := fun w => fewr_any m.n s a l x y (some P) (some Q) m.n m.n c d w
  rw [fewr_ok m s a l x y hm.1 hn hr hl hp] at hf
  have hf := Lib.hid hf
  have hT := Lib.hid (show ∀ (W : World) (U : Up w W), Calls Try.prog 9 #[rov m.n (sl P m.n c) (sl Q m.n d) s a l x y, .int .u64 A] W (fun e w' => ∃ (P' Q' : Addr) (c' d' : Nat), e = .returned (.tuple #[rov m.n (sl P' m.n c') (sl Q' m.n d') s a l x y, .int .u64 0, .int .i64 0]) ∧ Sits w' m P' Q' c' d' ∧ Up W w') from fun W U => by
    have q := to_any m s a l x y A P Q c d W (hm.up U) hA hwf hr hl
    rw [ht] at q
    exact q.mono fun e w' ⟨P', Q', c', d', h1, h2, h3, _⟩ => ⟨P', Q', c', d', h1, h2, h3⟩)
  have d0 : (A != 0) = false := by rw [h0]; rfl
  clear h0
  have hE := Lib.hid (show ∀ (W : World) (U : Up w W), Calls Try.prog 12 #[rov m.n (sl P m.n c) (sl Q m.n d) s a l x y, .slice none 0 0] W (fun e w' => ∃ (P' Q' : Addr) (c' d' : Nat) (A' : Option Addr) (k' : Nat), e = .returned (.tuple #[rov m.n (sl P' m.n c') (sl Q' m.n d') s a l x y, .slice A' 0 k', .int .i64 0]) ∧ Sits w' m P' Q' c' d' ∧ Up W w') from fun W U => by
    refine (each_any m s a l x y P Q c d none 0 0 [] W (hm.up U) hwf hr hl ⟨rfl, fun q => absurd q (by simp)⟩ (by simp) (by simp)).mono ?_
    rintro e w' ⟨P', Q', c', d', A', n', k', rfl, h1, h2, h3, _⟩
    obtain rfl : n' = 0 := (h3 rfl).1.symm
    exact ⟨P', Q', c', d', A', k', rfl, h1, h2⟩)
  have HM := Lib.hid hm
  clear hm hwf hn hr hl hp hA ht
  go_enter Try.func5, Try.ntmps5
  go_wp2_with (fail)
  refine calls_at (fun V1 hV => ?_)
  have kv : Up w V1 := by rw [hV]; (repeat (first | with_reducible exact Up.refl _ | with_reducible refine Up.alloc ?_ _ | with_reducible refine Up.drew ?_ | refine Up.setCell ?_ (by simp <;> omega) _))
  have Xv : Blk V1 (w.heap.size) 31 #[.int .i64 m.n, .slice (some P) m.n c, .slice (some Q) m.n d, .int .i64 s, .int .i64 a, .int .i64 l, .int .i64 x, .int .i64 y] := by rw [hV]; (repeat (first | with_reducible exact Blk.new' _ (by simp) _ _ | with_reducible refine Blk.alloc ?_ _ | with_reducible refine Blk.drew ?_ | refine Blk.far ?_ (by simp <;> omega) _))
  have Uv : Up w V1 := kv
  clear hV kv 
  refine (shown11 _).mono ?_
  rintro e w1 ⟨rfl, k1⟩
  have X1 := Xv.up k1
  have U1 := Uv.trans k1
  clear k1 Uv Xv 
  have X1c := X1.cell
  have X1f := X1.frozen
  have X1l := X1.lt
  go_wp2_with (fail)
  refine calls_at (fun V2 hV => ?_)
  have kv : Up w1 V2 := by rw [hV]; (repeat (first | with_reducible exact Up.refl _ | with_reducible refine Up.alloc ?_ _ | with_reducible refine Up.drew ?_ | refine Up.setCell ?_ (by simp <;> omega) _))
  have Xv := X1.up kv
  have Uv : Up w V2 := U1.trans kv
  clear hV kv X1 X1c X1f X1l U1
  refine (hf.out _).mono ?_
  rintro e w2 ⟨rfl, k2⟩
  have X2 := Xv.up k2
  have U2 := Uv.trans k2
  clear k2 Uv Xv 
  have X2c := X2.cell
  have X2f := X2.frozen
  have X2l := X2.lt
  go_wp2_with (fail)
  refine calls_at (fun V3 hV => ?_)
  have kv : Up w2 V3 := by rw [hV]; (repeat (first | with_reducible exact Up.refl _ | with_reducible refine Up.alloc ?_ _ | with_reducible refine Up.drew ?_ | refine Up.setCell ?_ (by simp <;> omega) _))
  have Xv := X2.up kv
  have Uv : Up w V3 := U2.trans kv
  clear hV kv X2 X2c X2f X2l U2
  refine (hT.out V3 Uv).mono ?_
  rintro e w3 ⟨P1, Q1, c1, d1, rfl, s13, k3⟩
  have X3 := Xv.up k3
  have U3 := Uv.trans k3
  clear k3 Uv Xv 
  have X3c := X3.cell
  have X3f := X3.frozen
  have X3l := X3.lt
  go_wp2_with (fail)
  refine calls_at (fun V4 hV => ?_)
  have kv : Up w3 V4 := by rw [hV]; (repeat (first | with_reducible exact Up.refl _ | with_reducible refine Up.alloc ?_ _ | with_reducible refine Up.drew ?_ | refine Up.setCell ?_ (by simp <;> omega) _))
  have Xv := X3.up kv
  have Yv : Blk V4 (w3.heap.size) 31 #[.int .i64 m.n, .slice (some P1) m.n c1, .slice (some Q1) m.n d1, .int .i64 s, .int .i64 a, .int .i64 l, .int .i64 x, .int .i64 y] := by rw [hV]; (repeat (first | with_reducible exact Blk.new' _ (by simp) _ _ | with_reducible refine Blk.alloc ?_ _ | with_reducible refine Blk.drew ?_ | refine Blk.far ?_ (by simp <;> omega) _))
  have Uv : Up w V4 := U3.trans kv
  have s1v := s13.up kv
  clear hV kv X3 X3c X3f X3l U3 s13
  refine (hE.out V4 Uv).mono ?_
  rintro e w4 ⟨P2, Q2, c2, d2, A2, k2_, rfl, s24, k4⟩
  have X4 := Xv.up k4
  have Y4 := Yv.up k4
  have U4 := Uv.trans k4
  have s14 := s1v.up k4
  clear k4 Uv Xv Yv s1v
  have X4c := X4.cell
  have X4f := X4.frozen
  have X4l := X4.lt
  have Y4c := Y4.cell
  have Y4f := Y4.frozen
  have Y4l := Y4.lt
  go_wp2_with (fail)
  refine calls_at (fun V5 hV => ?_)
  have kv : Up w4 V5 := by rw [hV]; (repeat (first | with_reducible exact Up.refl _ | with_reducible refine Up.alloc ?_ _ | with_reducible refine Up.drew ?_ | refine Up.setCell ?_ (by simp <;> omega) _))
  have Xv := X4.up kv
  have Yv := Y4.up kv
  have Zv : Blk V5 (w4.heap.size) 31 #[.int .i64 m.n, .slice (some P2) m.n c2, .slice (some Q2) m.n d2, .int .i64 s, .int .i64 a, .int .i64 l, .int .i64 x, .int .i64 y] := by rw [hV]; (repeat (first | with_reducible exact Blk.new' _ (by simp) _ _ | with_reducible refine Blk.alloc ?_ _ | with_reducible refine Blk.drew ?_ | refine Blk.far ?_ (by simp <;> omega) _))
  have Uv : Up w V5 := U4.trans kv
  have s1v := s14.up kv
  have s2v := s24.up kv
  clear hV kv X4 X4c X4f X4l Y4 Y4c Y4f Y4l U4 s14 s24
  refine (rosame_self m P2 Q2 P Q c2 d2 c d s a l x y V5 s2v (HM.out.up Uv)).mono ?_
  rintro e w5 ⟨rfl, k5⟩
  have X5 := Xv.up k5
  have Y5 := Yv.up k5
  have Z5 := Zv.up k5
  have U5 := Uv.trans k5
  have s15 := s1v.up k5
  have s25 := s2v.up k5
  clear k5 Uv Xv Yv Zv s1v s2v
  have X5c := X5.cell
  have X5f := X5.frozen
  have X5l := X5.lt
  have Y5c := Y5.cell
  have Y5f := Y5.frozen
  have Y5l := Y5.lt
  have Z5c := Z5.cell
  have Z5f := Z5.frozen
  have Z5l := Z5.lt
  go_wp2
  go_ret
  refine ⟨rfl, ?_⟩
  (repeat (first | with_reducible exact U5 | with_reducible refine Up.alloc ?_ _ | with_reducible refine Up.drew ?_ | refine Up.setCell ?_ (by simp <;> omega) _))

theorem walk_yes (m : Me) (P Q : Addr) (c d : Nat) (s a l x y : Int) (A : Int) (w : World) (hm : Sits w m P Q c d) (hwf : m.wf) (hn : m.n ≤ 200) (hr : rgt s a l) (hl : l = m.n) (hp : (x = 0 ∧ y = 0) ∨ (0 ≤ x ∧ x ≤ y ∧ y ≤ a)) (hA : U64 A) :
    Calls Try.prog 5 #[.agg #[.int .i64 m.n, .slice (some P) m.n c, .slice (some Q) m.n d, .int .i64 s, .int .i64 a, .int .i64 l, .int .i64 x, .int .i64 y], .int .u64 A] w (fun e w' => e = .returned (.bool true) ∧ Up w w') := by
  by_cases h0 : A = 0
  · exact walk_zero m P Q c d s a l x y A w hm hwf hn hr hl hp hA h0 (if_pos h0)
  · by_cases h1 : (toa m s a l A).e = 0
    · exact walk_ok m P Q c d s a l x y A w hm hwf hn hr hl hp hA h0 (toa m s a l A).m (toa m s a l A).a (toa m s a l A).b (by rw [← h1])
    · exact walk_err m P Q c d s a l x y A w hm hwf hn hr hl hp hA h0 _ h1 (toa_no hm.1 hwf hr hl h1)

theorem walk (N : Int) (A0 A1 : Option Addr) (n0 n1 c0 c1 : Nat) (s a l x y : Int) (xs ys : List Int) (A : Int) (w : World) (hx : SlOk w A0 n0 c0 xs) (hy : SlOk w A1 n1 c1 ys) (hA : U64 A) :
    Calls Try.prog 5 #[.agg #[.int .i64 N, .slice A0 n0 c0, .slice A1 n1 c1, .int .i64 s, .int .i64 a, .int .i64 l, .int .i64 x, .int .i64 y], .int .u64 A] w (fun e w' => e = .returned (.bool true) ∧ Up w w') := by
  cases hfew : fewr N n0 n1 s a l x y
  · exact walk_no N A0 A1 n0 n1 c0 c1 s a l x y A hfew w
  · obtain ⟨rfl, rfl, h16, h200, hr, hl, hp⟩ := fewr_is hfew
    obtain ⟨P, Q, rfl, rfl, hm⟩ := sits_of hx hy h16 (by omega)
    have hwf := sits_wf hx hy
    exact walk_yes ⟨n0, xs, ys⟩ P Q c0 c1 s a l x y A w hm hwf h200 hr hl hp hA

theorem own : ownKnob Try.prog.godebug = none := by kernel_rfl
set_option maxRecDepth 100000 in
theorem lifted (os : Os) (started : os.Started) (H : Type) (enc : TypeId × Value → H) :
    ReturnsInHanded {} Try.checked os 5 .any (Rows.twinRefusesSpec.pre6 enc Try.prog Try.f5 Rows.twinRefusesRow.domain false) (Rows.twinRefusesSpec.post enc Try.prog Try.f5 false true false false) := by
  refine returnsInHanded_of_change (C := Try.checked) own started (by kernel_rfl) Try.func5
    (ChangeSpec.witness6 (enc := enc) (C := Try.checked) false ⟨#[], #[.agg #[.int .i64 0, .slice none 0 0, .slice none 0 0, .int .i64 0, .int .i64 0, .int .i64 0, .int .i64 0, .int .i64 0], .int .u64 0], []⟩ 8 (by kernel_rfl) (by kernel_rfl) (by kernel_rfl) (by kernel_rfl)) ?_
  intro W base args ds gs before hval0 hW hcnd _
  have hval : ∀ (j : Nat) t v, Try.f5.params[j]? = some t → args[j]? = some v → Value.okWide Try.prog W .any base t v := hval0
  have hW' := hW
  obtain ⟨p, q, hA0, hV, rfl, hfz, hnd⟩ := hW
  have hA : DataW.TrodAll enc Try.prog W 0 (fun _ => true) true Try.f5.params.toList args.toList ds p := hA0
  rw [Try.params5] at hA hval
  obtain ⟨v0, vs0, d0, ds0, p0, q0, hargs, rfl, rfl, h0, r0⟩ := trodAll_cons hA
  obtain ⟨v1, vs1, d1, ds1, p1, q1, rfl, rfl, rfl, h1, r1⟩ := trodAll_cons r0
  obtain ⟨rfl, rfl, rfl⟩ := trodAll_nil r1
  obtain rfl : args = #[v0, v1] := by cases args; simp_all
  obtain ⟨rfl, rfl⟩ := trodVars_none hV
  have h0k := h0
  obtain ⟨N, A0, A1, n0, n1, c0, c1, xs, ys, s, a, l, x, y, rfl, hN, hx, hy, hs, ha, hl, hxx, hyy⟩ := room_open (hval 0 31 v0 rfl rfl) h0
  obtain ⟨a1, rfl, rfl, rfl, w1⟩ := open_int Try.underlying32 (hval 1 32 v1 rfl rfl) h1
  clear hA0 hval0
  simp only [List.append_nil, List.nil_append] at hW'
  refine (walk N A0 A1 n0 n1 c0 c1 s a l x y xs ys a1 W hx hy ⟨nn_of_wf w1, hi_of_wf w1⟩).mono fun e W' ⟨he, hg⟩ => ?_
  subst he
  exact ⟨_, rfl, post_below (pa := p0) (pv := []) hW' (fun _ _ _ => (trodAll_cons_mk (shut_bool Try.underlying4 _) trodAll_mk0))
    (fun sp hsp => by
      have t := (trodAll_cons_mk (trod_keeps (sp := sp) (by kernel_rfl) (of_decide_eq_true (by kernel_rfl)) h0k hg (fun x hx => hW'.lt x (by simp [hx])) (fun x hx => hsp x (by simp [hx]))) (trodAll_cons_mk (shut_int Try.underlying32 w1) trodAll_mk0))
      simp only [List.append_nil, List.nil_append] at t
      exact t) (fun _ _ => rfl) (by simp)
    hg (ok_one (by kernel_rfl) rfl (okWide_bool_mk Try.underlying4 _))⟩

set_option maxRecDepth 100000 in
theorem over : Rows.twinRefusesRow.holds Try.pinned (OpenSpec.ofChange Rows.twinRefusesSpec) :=
  OpenClaim.holds_of_wide 5 Try.f5 rfl rfl rfl rfl rfl rfl rfl ⟨rfl, rfl, rfl, rfl, rfl⟩ rfl rfl rfl rfl rfl (by kernel_rfl) Try.func5 (by kernel_rfl)
    (of_decide_eq_true (by kernel_rfl)) (by unfold Func.isWrapper; first | (rw [if_pos (by decide +kernel)]; kernel_rfl) | (rw [if_neg (by decide +kernel)]; exact ⟨rfl, rfl⟩))
    (fun os started H enc _ => lifted os started H enc)

theorem proved : Rows.TwinRefusesSaid :=
  over
#print axioms proved
end Go.Proofs.Ytmjjgaldbnhdfaa.LTwinRefuses
