/- The statement ScanGrey is proved for every input, from contracts of the functions that it calls; no condition is added. -/
import Derived.Test.YtmhnbnifoncodaaSc7
namespace Go.Proofs.Ytmhnbnifoncodaa.LScanGrey
open Go.Joins Go.ChangeShapes Go.WideShapes Go.ChangeAt Go.RowKit Go.Deep
set_option linter.unusedVariables false
set_option linter.unusedSimpArgs false

set_option maxRecDepth 100000 in
set_option maxHeartbeats 8000000 in
theorem walk_no (N : Int) (A0 A1 : Option Addr) (n0 n1 c0 c1 : Nat) (s a l x y : Int) (p : Int) (hfew : fewr N n0 n1 s a l x y = false) (w : World) :
    Calls Try.prog 3 #[.agg #[.int .i64 N, .slice A0 n0 c0, .slice A1 n1 c1, .int .i64 s, .int .i64 a, .int .i64 l, .int .i64 x, .int .i64 y], .int .i64 p] w (fun e w' => e = .returned (.bool true) ∧ Up w w') := by
  have hf := fun w => fewr_any N s a l x y A0 A1 n0 n1 c0 c1 w
  rw [hfew] at hf
  have hf := Lib.hid hf
  go_enter Try.func3, Try.ntmps3
  go_wp2_with (fail)
  refine calls_at (fun V1 hV => ?_)
  have kv : Up w V1 := by rw [hV]; (repeat (first | with_reducible exact Up.refl _ | with_reducible refine Up.alloc ?_ _ | with_reducible refine Up.drew ?_ | refine Up.setCell ?_ (by simp <;> omega) _))
  have Xv : Blk V1 (w.heap.size) 31 #[.int .i64 N, .slice A0 n0 c0, .slice A1 n1 c1, .int .i64 s, .int .i64 a, .int .i64 l, .int .i64 x, .int .i64 y] := by rw [hV]; (repeat (first | with_reducible exact Blk.new' _ (by simp) _ _ | with_reducible refine Blk.alloc ?_ _ | with_reducible refine Blk.drew ?_ | refine Blk.far ?_ (by simp <;> omega) _))
  have Uv : Up w V1 := kv
  clear hV kv 
  refine (shown12 _).mono ?_
  rintro e w1 ⟨rfl, k1⟩
  have X1 := Xv.up k1
  have U1 := Uv.trans k1
  clear k1 Uv Xv 
  have X1c := X1.cell
  have X1f := X1.frozen
  have X1l := X1.lt
  go_wp2_with (fail)
  refine calls_at (fun V2 hV => ?_)
  have kv : Up w1 V2 := by rw [hV]; (repeat (first | with_reducible exact Up.refl _ | with_reducible refine Up.alloc ?_ _ | with_reducible refine Up.drew ?_ | refine Up.setCell ?_ (by simp <;> omega) _))
  have Xv := X1.up kv
  have Uv : Up w V2 := U1.trans kv
  clear hV kv X1 X1c X1f X1l U1
  refine (hf.out _).mono ?_
  rintro e w2 ⟨rfl, k2⟩
  have X2 := Xv.up k2
  have U2 := Uv.trans k2
  clear k2 Uv Xv 
  have X2c := X2.cell
  have X2f := X2.frozen
  have X2l := X2.lt
  go_wp2
  go_ret
  refine ⟨rfl, ?_⟩
  (repeat (first | with_reducible exact U2 | with_reducible refine Up.alloc ?_ _ | with_reducible refine Up.drew ?_ | refine Up.setCell ?_ (by simp <;> omega) _))

set_option maxRecDepth 100000 in
set_option maxHeartbeats 8000000 in
theorem walk_end (m : Me) (P Q : Addr) (c d : Nat) (s a l x y : Int) (p : Int) (w : World) (hm : Sits w m P Q c d) (hwf : m.wf) (hn : m.n ≤ 200) (hr : rgt s a l) (hl : l = m.n) (hp : (x = 0 ∧ y = 0) ∨ (0 ≤ x ∧ x ≤ y ∧ y ≤ a)) (K : Me) (p2 : Int) (a2 : Int) (f : Nat) (hfu : (a - p).toNat < f) (ht : onf m s a l p = ⟨K, a2, p2, 9⟩) (hg : gry m s a f p 0 = 0)  :
    Calls Try.prog 3 #[.agg #[.int .i64 m.n, .slice (some P) m.n c, .slice (some Q) m.n d, .int .i64 s, .int .i64 a, .int .i64 l, .int .i64 x, .int .i64 y], .int .i64 p] w (fun e w' => e = .returned (.bool true) ∧ Up w w') := by
  have hf := fun w => fewr_any m.n s a l x y (some P) (some Q) m.n m.n c d w
  rw [fewr_ok m s a l x y hm.1 hn hr hl hp] at hf
  have hf := Lib.hid hf
  have hO := Lib.hid (show ∀ (W : World) (U : Up w W), Calls Try.prog 6 #[rov m.n (sl P m.n c) (sl Q m.n d) s a l x y, .int .i64 p] W (OnPost W K s a2 l x y p2 9) from fun W U => by
    have q := one_any m s a l x y p P Q c d W (hm.up U) hwf hr hl
    rw [ht] at q
    exact q)
  have hG := Lib.hid (show ∀ (W : World) (U : Up w W), Calls Try.prog 7 #[rov m.n (sl P m.n c) (sl Q m.n d) s a l x y, .int .i64 p] W (fun e w' => e = .returned (.int .i64 0) ∧ Up W w') from fun W U => by
    have q := grey_any m s a l x y p P Q c d W (hm.up U) hwf hr hl f hfu
    rw [hg] at q
    exact q)
  clear hm hwf hn hr hl hp ht hg hfu 
  go_enter Try.func3, Try.ntmps3
  go_wp2_with (fail)
  refine calls_at (fun V1 hV => ?_)
  have kv : Up w V1 := by rw [hV]; (repeat (first | with_reducible exact Up.refl _ | with_reducible refine Up.alloc ?_ _ | with_reducible refine Up.drew ?_ | refine Up.setCell ?_ (by simp <;> omega) _))
  have Xv : Blk V1 (w.heap.size) 31 #[.int .i64 m.n, .slice (some P) m.n c, .slice (some Q) m.n d, .int .i64 s, .int .i64 a, .int .i64 l, .int .i64 x, .int .i64 y] := by rw [hV]; (repeat (first | with_reducible exact Blk.new' _ (by simp) _ _ | with_reducible refine Blk.alloc ?_ _ | with_reducible refine Blk.drew ?_ | refine Blk.far ?_ (by simp <;> omega) _))
  have Uv : Up w V1 := kv
  clear hV kv 
  refine (shown12 _).mono ?_
  rintro e w1 ⟨rfl, k1⟩
  have X1 := Xv.up k1
  have U1 := Uv.trans k1
  clear k1 Uv Xv 
  have X1c := X1.cell
  have X1f := X1.frozen
  have X1l := X1.lt
  go_wp2_with (fail)
  refine calls_at (fun V2 hV => ?_)
  have kv : Up w1 V2 := by rw [hV]; (repeat (first | with_reducible exact Up.refl _ | with_reducible refine Up.alloc ?_ _ | with_reducible refine Up.drew ?_ | refine Up.setCell ?_ (by simp <;> omega) _))
  have Xv := X1.up kv
  have Uv : Up w V2 := U1.trans kv
  clear hV kv X1 X1c X1f X1l U1
  refine (hf.out _).mono ?_
  rintro e w2 ⟨rfl, k2⟩
  have X2 := Xv.up k2
  have U2 := Uv.trans k2
  clear k2 Uv Xv 
  have X2c := X2.cell
  have X2f := X2.frozen
  have X2l := X2.lt
  go_wp2_with (fail)
  refine calls_at (fun V3 hV => ?_)
  have kv : Up w2 V3 := by rw [hV]; (repeat (first | with_reducible exact Up.refl _ | with_reducible refine Up.alloc ?_ _ | with_reducible refine Up.drew ?_ | refine Up.setCell ?_ (by simp <;> omega) _))
  have Xv := X2.up kv
  have Uv : Up w V3 := U2.trans kv
  clear hV kv X2 X2c X2f X2l U2
  refine (hO.out V3 Uv).mono ?_
  rintro e w3 ⟨P1, Q1, c1, d1, rfl, s13, k3⟩
  have X3 := Xv.up k3
  have U3 := Uv.trans k3
  clear k3 Uv Xv 
  have X3c := X3.cell
  have X3f := X3.frozen
  have X3l := X3.lt
  go_wp2_with (fail)
  refine calls_at (fun V4 hV => ?_)
  have kv : Up w3 V4 := by rw [hV]; (repeat (first | with_reducible exact Up.refl _ | with_reducible refine Up.alloc ?_ _ | with_reducible refine Up.drew ?_ | refine Up.setCell ?_ (by simp <;> omega) _))
  have Xv := X3.up kv
  have Yv : Blk V4 (w3.heap.size) 31 #[.int .i64 K.n, .slice (some P1) K.n c1, .slice (some Q1) K.n d1, .int .i64 s, .int .i64 a2, .int .i64 l, .int .i64 x, .int .i64 y] := by rw [hV]; (repeat (first | with_reducible exact Blk.new' _ (by simp) _ _ | with_reducible refine Blk.alloc ?_ _ | with_reducible refine Blk.drew ?_ | refine Blk.far ?_ (by simp <;> omega) _))
  have Uv : Up w V4 := U3.trans kv
  have s1v := s13.up kv
  clear hV kv X3 X3c X3f X3l U3 s13
  refine (hG.out V4 Uv).mono ?_
  rintro e w4 ⟨rfl, k4⟩
  have X4 := Xv.up k4
  have Y4 := Yv.up k4
  have U4 := Uv.trans k4
  have s14 := s1v.up k4
  clear k4 Uv Xv Yv s1v
  have X4c := X4.cell
  have X4f := X4.frozen
  have X4l := X4.lt
  have Y4c := Y4.cell
  have Y4f := Y4.frozen
  have Y4l := Y4.lt
  go_wp2
  go_ret
  refine ⟨rfl, ?_⟩
  (repeat (first | with_reducible exact U4 | with_reducible refine Up.alloc ?_ _ | with_reducible refine Up.drew ?_ | refine Up.setCell ?_ (by simp <;> omega) _))

set_option maxRecDepth 100000 in
set_option maxHeartbeats 8000000 in
theorem walk_err (m : Me) (P Q : Addr) (c d : Nat) (s a l x y : Int) (p : Int) (w : World) (hm : Sits w m P Q c d) (hwf : m.wf) (hn : m.n ≤ 200) (hr : rgt s a l) (hl : l = m.n) (hp : (x = 0 ∧ y = 0) ∨ (0 ≤ x ∧ x ≤ y ∧ y ≤ a)) (K : Me) (p2 : Int) (a2 er n : Int) (f : Nat) (hfu : (a - p).toNat < f) (ht : onf m s a l p = ⟨K, a2, p2, er⟩) (hg : gry m s a f p 0 = n) (h0 : er ≠ 0) (h9 : er ≠ 9) :
    Calls Try.prog 3 #[.agg #[.int .i64 m.n, .slice (some P) m.n c, .slice (some Q) m.n d, .int .i64 s, .int .i64 a, .int .i64 l, .int .i64 x, .int .i64 y], .int .i64 p] w (fun e w' => e = .returned (.bool true) ∧ Up w w') := by
  have hf := fun w => fewr_any m.n s a l x y (some P) (some Q) m.n m.n c d w
  rw [fewr_ok m s a l x y hm.1 hn hr hl hp] at hf
  have hf := Lib.hid hf
  have hO := Lib.hid (show ∀ (W : World) (U : Up w W), Calls Try.prog 6 #[rov m.n (sl P m.n c) (sl Q m.n d) s a l x y, .int .i64 p] W (OnPost W K s a2 l x y p2 er) from fun W U => by
    have q := one_any m s a l x y p P Q c d W (hm.up U) hwf hr hl
    rw [ht] at q
    exact q)
  have hG := Lib.hid (show ∀ (W : World) (U : Up w W), Calls Try.prog 7 #[rov m.n (sl P m.n c) (sl Q m.n d) s a l x y, .int .i64 p] W (fun e w' => e = .returned (.int .i64 n) ∧ Up W w') from fun W U => by
    have q := grey_any m s a l x y p P Q c d W (hm.up U) hwf hr hl f hfu
    rw [hg] at q
    exact q)
  have q0 : (er != 0) = true := bne_iff_ne.mpr h0
  have q9 : (er != 9) = true := bne_iff_ne.mpr h9
  clear hm hwf hn hr hl hp ht hg hfu h0 h9
  go_enter Try.func3, Try.ntmps3
  go_wp2_with (fail)
  refine calls_at (fun V1 hV => ?_)
  have kv : Up w V1 := by rw [hV]; (repeat (first | with_reducible exact Up.refl _ | with_reducible refine Up.alloc ?_ _ | with_reducible refine Up.drew ?_ | refine Up.setCell ?_ (by simp <;> omega) _))
  have Xv : Blk V1 (w.heap.size) 31 #[.int .i64 m.n, .slice (some P) m.n c, .slice (some Q) m.n d, .int .i64 s, .int .i64 a, .int .i64 l, .int .i64 x, .int .i64 y] := by rw [hV]; (repeat (first | with_reducible exact Blk.new' _ (by simp) _ _ | with_reducible refine Blk.alloc ?_ _ | with_reducible refine Blk.drew ?_ | refine Blk.far ?_ (by simp <;> omega) _))
  have Uv : Up w V1 := kv
  clear hV kv 
  refine (shown12 _).mono ?_
  rintro e w1 ⟨rfl, k1⟩
  have X1 := Xv.up k1
  have U1 := Uv.trans k1
  clear k1 Uv Xv 
  have X1c := X1.cell
  have X1f := X1.frozen
  have X1l := X1.lt
  go_wp2_with (fail)
  refine calls_at (fun V2 hV => ?_)
  have kv : Up w1 V2 := by rw [hV]; (repeat (first | with_reducible exact Up.refl _ | with_reducible refine Up.alloc ?_ _ | with_reducible refine Up.drew ?_ | refine Up.setCell ?_ (by simp <;> omega) _))
  have Xv := X1.up kv
  have Uv : Up w V2 := U1.trans kv
  clear hV kv X1 X1c X1f X1l U1
  refine (hf.out _).mono ?_
  rintro e w2 ⟨rfl, k2⟩
  have X2 := Xv.up k2
  have U2 := Uv.trans k2
  clear k2 Uv Xv 
  have X2c := X2.cell
  have X2f := X2.frozen
  have X2l := X2.lt
  go_wp2_with (fail)
  refine calls_at (fun V3 hV => ?_)
  have kv : Up w2 V3 := by rw [hV]; (repeat (first | with_reducible exact Up.refl _ | with_reducible refine Up.alloc ?_ _ | with_reducible refine Up.drew ?_ | refine Up.setCell ?_ (by simp <;> omega) _))
  have Xv := X2.up kv
  have Uv : Up w V3 := U2.trans kv
  clear hV kv X2 X2c X2f X2l U2
  refine (hO.out V3 Uv).mono ?_
  rintro e w3 ⟨P1, Q1, c1, d1, rfl, s13, k3⟩
  have X3 := Xv.up k3
  have U3 := Uv.trans k3
  clear k3 Uv Xv 
  have X3c := X3.cell
  have X3f := X3.frozen
  have X3l := X3.lt
  go_wp2_with (fail)
  refine calls_at (fun V4 hV => ?_)
  have kv : Up w3 V4 := by rw [hV]; (repeat (first | with_reducible exact Up.refl _ | with_reducible refine Up.alloc ?_ _ | with_reducible refine Up.drew ?_ | refine Up.setCell ?_ (by simp <;> omega) _))
  have Xv := X3.up kv
  have Yv : Blk V4 (w3.heap.size) 31 #[.int .i64 K.n, .slice (some P1) K.n c1, .slice (some Q1) K.n d1, .int .i64 s, .int .i64 a2, .int .i64 l, .int .i64 x, .int .i64 y] := by rw [hV]; (repeat (first | with_reducible exact Blk.new' _ (by simp) _ _ | with_reducible refine Blk.alloc ?_ _ | with_reducible refine Blk.drew ?_ | refine Blk.far ?_ (by simp <;> omega) _))
  have Uv : Up w V4 := U3.trans kv
  have s1v := s13.up kv
  clear hV kv X3 X3c X3f X3l U3 s13
  refine (hG.out V4 Uv).mono ?_
  rintro e w4 ⟨rfl, k4⟩
  have X4 := Xv.up k4
  have Y4 := Yv.up k4
  have U4 := Uv.trans k4
  have s14 := s1v.up k4
  clear k4 Uv Xv Yv s1v
  have X4c := X4.cell
  have X4f := X4.frozen
  have X4l := X4.lt
  have Y4c := Y4.cell
  have Y4f := Y4.frozen
  have Y4l := Y4.lt
  go_wp2
  go_ret
  refine ⟨rfl, ?_⟩
  (repeat (first | with_reducible exact U4 | with_reducible refine Up.alloc ?_ _ | with_reducible refine Up.drew ?_ | refine Up.setCell ?_ (by simp <;> omega) _))

set_option maxRecDepth 100000 in
set_option maxHeartbeats 8000000 in
theorem walk_not (m : Me) (P Q : Addr) (c d : Nat) (s a l x y : Int) (p : Int) (w : World) (hm : Sits w m P Q c d) (hwf : m.wf) (hn : m.n ≤ 200) (hr : rgt s a l) (hl : l = m.n) (hp : (x = 0 ∧ y = 0) ∨ (0 ≤ x ∧ x ≤ y ∧ y ≤ a)) (K : Me) (p2 : Int) (a2 n : Int) (f : Nat) (hfu : (a - p).toNat < f) (ht : onf m s a l p = ⟨K, a2, p2, 0⟩) (hg : gry m s a f p 0 = n) (h0 : n < 0) :
    Calls Try.prog 3 #[.agg #[.int .i64 m.n, .slice (some P) m.n c, .slice (some Q) m.n d, .int .i64 s, .int .i64 a, .int .i64 l, .int .i64 x, .int .i64 y], .int .i64 p] w (fun e w' => e = .returned (.bool true) ∧ Up w w') := by
  have hf := fun w => fewr_any m.n s a l x y (some P) (some Q) m.n m.n c d w
  rw [fewr_ok m s a l x y hm.1 hn hr hl hp] at hf
  have hf := Lib.hid hf
  have hO := Lib.hid (show ∀ (W : World) (U : Up w W), Calls Try.prog 6 #[rov m.n (sl P m.n c) (sl Q m.n d) s a l x y, .int .i64 p] W (OnPost W K s a2 l x y p2 0) from fun W U => by
    have q := one_any m s a l x y p P Q c d W (hm.up U) hwf hr hl
    rw [ht] at q
    exact q)
  have hG := Lib.hid (show ∀ (W : World) (U : Up w W), Calls Try.prog 7 #[rov m.n (sl P m.n c) (sl Q m.n d) s a l x y, .int .i64 p] W (fun e w' => e = .returned (.int .i64 n) ∧ Up W w') from fun W U => by
    have q := grey_any m s a l x y p P Q c d W (hm.up U) hwf hr hl f hfu
    rw [hg] at q
    exact q)
  have q0 : decide (n < 0) = true := decide_eq_true h0
  clear hm hwf hn hr hl hp ht hg hfu h0
  go_enter Try.func3, Try.ntmps3
  go_wp2_with (fail)
  refine calls_at (fun V1 hV => ?_)
  have kv : Up w V1 := by rw [hV]; (repeat (first | with_reducible exact Up.refl _ | with_reducible refine Up.alloc ?_ _ | with_reducible refine Up.drew ?_ | refine Up.setCell ?_ (by simp <;> omega) _))
  have Xv : Blk V1 (w.heap.size) 31 #[.int .i64 m.n, .slice (some P) m.n c, .slice (some Q) m.n d, .int .i64 s, .int .i64 a, .int .i64 l, .int .i64 x, .int .i64 y] := by rw [hV]; (repeat (first | with_reducible exact Blk.new' _ (by simp) _ _ | with_reducible refine Blk.alloc ?_ _ | with_reducible refine Blk.drew ?_ | refine Blk.far ?_ (by simp <;> omega) _))
  have Uv : Up w V1 := kv
  clear hV kv 
  refine (shown12 _).mono ?_
  rintro e w1 ⟨rfl, k1⟩
  have X1 := Xv.up k1
  have U1 := Uv.trans k1
  clear k1 Uv Xv 
  have X1c := X1.cell
  have X1f := X1.frozen
  have X1l := X1.lt
  go_wp2_with (fail)
  refine calls_at (fun V2 hV => ?_)
  have kv : Up w1 V2 := by rw [hV]; (repeat (first | with_reducible exact Up.refl _ | with_reducible refine Up.alloc ?_ _ | with_reducible refine Up.drew ?_ | refine Up.setCell ?_ (by simp <;> omega) _))
  have Xv := X1.up kv
  have Uv : Up w V2 := U1.trans kv
  clear hV kv X1 X1c X1f X1l U1
  refine (hf.out _).mono ?_
  rintro e w2 ⟨rfl, k2⟩
  have X2 := Xv.up k2
  have U2 := Uv.trans k2
  clear k2 Uv Xv 
  have X2c := X2.cell
  have X2f := X2.frozen
  have X2l := X2.lt
  go_wp2_with (fail)
  refine calls_at (fun V3 hV => ?_)
  have kv : Up w2 V3 := by rw [hV]; (repeat (first | with_reducible exact Up.refl _ | with_reducible refine Up.alloc ?_ _ | with_reducible refine Up.drew ?_ | refine Up.setCell ?_ (by simp <;> omega) _))
  have Xv := X2.up kv
  have Uv : Up w V3 := U2.trans kv
  clear hV kv X2 X2c X2f X2l U2
  refine (hO.out V3 Uv).mono ?_
  rintro e w3 ⟨P1, Q1, c1, d1, rfl, s13, k3⟩
  have X3 := Xv.up k3
  have U3 := Uv.trans k3
  clear k3 Uv Xv 
  have X3c := X3.cell
  have X3f := X3.frozen
  have X3l := X3.lt
  go_wp2_with (fail)
  refine calls_at (fun V4 hV => ?_)
  have kv : Up w3 V4 := by rw [hV]; (repeat (first | with_reducible exact Up.refl _ | with_reducible refine Up.alloc ?_ _ | with_reducible refine Up.drew ?_ | refine Up.setCell ?_ (by simp <;> omega) _))
  have Xv := X3.up kv
  have Yv : Blk V4 (w3.heap.size) 31 #[.int .i64 K.n, .slice (some P1) K.n c1, .slice (some Q1) K.n d1, .int .i64 s, .int .i64 a2, .int .i64 l, .int .i64 x, .int .i64 y] := by rw [hV]; (repeat (first | with_reducible exact Blk.new' _ (by simp) _ _ | with_reducible refine Blk.alloc ?_ _ | with_reducible refine Blk.drew ?_ | refine Blk.far ?_ (by simp <;> omega) _))
  have Uv : Up w V4 := U3.trans kv
  have s1v := s13.up kv
  clear hV kv X3 X3c X3f X3l U3 s13
  refine (hG.out V4 Uv).mono ?_
  rintro e w4 ⟨rfl, k4⟩
  have X4 := Xv.up k4
  have Y4 := Yv.up k4
  have U4 := Uv.trans k4
  have s14 := s1v.up k4
  clear k4 Uv Xv Yv s1v
  have X4c := X4.cell
  have X4f := X4.frozen
  have X4l := X4.lt
  have Y4c := Y4.cell
  have Y4f := Y4.frozen
  have Y4l := Y4.lt
  go_wp2
  go_ret
  refine ⟨rfl, ?_⟩
  (repeat (first | with_reducible exact U4 | with_reducible refine Up.alloc ?_ _ | with_reducible refine Up.drew ?_ | refine Up.setCell ?_ (by simp <;> omega) _))

set_option maxRecDepth 100000 in
set_option maxHeartbeats 8000000 in
theorem walk_made (m : Me) (P Q : Addr) (c d : Nat) (s a l x y : Int) (p : Int) (w : World) (hm : Sits w m P Q c d) (hwf : m.wf) (hn : m.n ≤ 200) (hr : rgt s a l) (hl : l = m.n) (hp : (x = 0 ∧ y = 0) ∨ (0 ≤ x ∧ x ≤ y ∧ y ≤ a)) (K : Me) (p2 : Int) (a2 n : Int) (f : Nat) (hfu : (a - p).toNat < f) (ht : onf m s a l p = ⟨K, a2, p2, 0⟩) (hg : gry m s a f p 0 = n) (h0 : ¬ n < 0) (ha : a2 ≠ a) :
    Calls Try.prog 3 #[.agg #[.int .i64 m.n, .slice (some P) m.n c, .slice (some Q) m.n d, .int .i64 s, .int .i64 a, .int .i64 l, .int .i64 x, .int .i64 y], .int .i64 p] w (fun e w' => e = .returned (.bool true) ∧ Up w w') := by
  have hf := fun w => fewr_any m.n s a l x y (some P) (some Q) m.n m.n c d w
  rw [fewr_ok m s a l x y hm.1 hn hr hl hp] at hf
  have hf := Lib.hid hf
  have hO := Lib.hid (show ∀ (W : World) (U : Up w W), Calls Try.prog 6 #[rov m.n (sl P m.n c) (sl Q m.n d) s a l x y, .int .i64 p] W (OnPost W K s a2 l x y p2 0) from fun W U => by
    have q := one_any m s a l x y p P Q c d W (hm.up U) hwf hr hl
    rw [ht] at q
    exact q)
  have hG := Lib.hid (show ∀ (W : World) (U : Up w W), Calls Try.prog 7 #[rov m.n (sl P m.n c) (sl Q m.n d) s a l x y, .int .i64 p] W (fun e w' => e = .returned (.int .i64 n) ∧ Up W w') from fun W U => by
    have q := grey_any m s a l x y p P Q c d W (hm.up U) hwf hr hl f hfu
    rw [hg] at q
    exact q)
  have q0 : decide (n < 0) = false := decide_eq_false h0
  have q1 : (a2 != a) = true := bne_iff_ne.mpr ha
  clear hm hwf hn hr hl hp ht hg hfu h0 ha
  go_enter Try.func3, Try.ntmps3
  go_wp2_with (fail)
  refine calls_at (fun V1 hV => ?_)
  have kv : Up w V1 := by rw [hV]; (repeat (first | with_reducible exact Up.refl _ | with_reducible refine Up.alloc ?_ _ | with_reducible refine Up.drew ?_ | refine Up.setCell ?_ (by simp <;> omega) _))
  have Xv : Blk V1 (w.heap.size) 31 #[.int .i64 m.n, .slice (some P) m.n c, .slice (some Q) m.n d, .int .i64 s, .int .i64 a, .int .i64 l, .int .i64 x, .int .i64 y] := by rw [hV]; (repeat (first | with_reducible exact Blk.new' _ (by simp) _ _ | with_reducible refine Blk.alloc ?_ _ | with_reducible refine Blk.drew ?_ | refine Blk.far ?_ (by simp <;> omega) _))
  have Uv : Up w V1 := kv
  clear hV kv 
  refine (shown12 _).mono ?_
  rintro e w1 ⟨rfl, k1⟩
  have X1 := Xv.up k1
  have U1 := Uv.trans k1
  clear k1 Uv Xv 
  have X1c := X1.cell
  have X1f := X1.frozen
  have X1l := X1.lt
  go_wp2_with (fail)
  refine calls_at (fun V2 hV => ?_)
  have kv : Up w1 V2 := by rw [hV]; (repeat (first | with_reducible exact Up.refl _ | with_reducible refine Up.alloc ?_ _ | with_reducible refine Up.drew ?_ | refine Up.setCell ?_ (by simp <;> omega) _))
  have Xv := X1.up kv
  have Uv : Up w V2 := U1.trans kv
  clear hV kv X1 X1c X1f X1l U1
  refine (hf.out _).mono ?_
  rintro e w2 ⟨rfl, k2⟩
  have X2 := Xv.up k2
  have U2 := Uv.trans k2
  clear k2 Uv Xv 
  have X2c := X2.cell
  have X2f := X2.frozen
  have X2l := X2.lt
  go_wp2_with (fail)
  refine calls_at (fun V3 hV => ?_)
  have kv : Up w2 V3 := by rw [hV]; (repeat (first | with_reducible exact Up.refl _ | with_reducible refine Up.alloc ?_ _ | with_reducible refine Up.drew ?_ | refine Up.setCell ?_ (by simp <;> omega) _))
  have Xv := X2.up kv
  have Uv : Up w V3 := U2.trans kv
  clear hV kv X2 X2c X2f X2l U2
  refine (hO.out V3 Uv).mono ?_
  rintro e w3 ⟨P1, Q1, c1, d1, rfl, s13, k3⟩
  have X3 := Xv.up k3
  have U3 := Uv.trans k3
  clear k3 Uv Xv 
  have X3c := X3.cell
  have X3f := X3.frozen
  have X3l := X3.lt
  go_wp2_with (fail)
  refine calls_at (fun V4 hV => ?_)
  have kv : Up w3 V4 := by rw [hV]; (repeat (first | with_reducible exact Up.refl _ | with_reducible refine Up.alloc ?_ _ | with_reducible refine Up.drew ?_ | refine Up.setCell ?_ (by simp <;> omega) _))
  have Xv := X3.up kv
  have Yv : Blk V4 (w3.heap.size) 31 #[.int .i64 K.n, .slice (some P1) K.n c1, .slice (some Q1) K.n d1, .int .i64 s, .int .i64 a2, .int .i64 l, .int .i64 x, .int .i64 y] := by rw [hV]; (repeat (first | with_reducible exact Blk.new' _ (by simp) _ _ | with_reducible refine Blk.alloc ?_ _ | with_reducible refine Blk.drew ?_ | refine Blk.far ?_ (by simp <;> omega) _))
  have Uv : Up w V4 := U3.trans kv
  have s1v := s13.up kv
  clear hV kv X3 X3c X3f X3l U3 s13
  refine (hG.out V4 Uv).mono ?_
  rintro e w4 ⟨rfl, k4⟩
  have X4 := Xv.up k4
  have Y4 := Yv.up k4
  have U4 := Uv.trans k4
  have s14 := s1v.up k4
  clear k4 Uv Xv Yv s1v
  have X4c := X4.cell
  have X4f := X4.frozen
  have X4l := X4.lt
  have Y4c := Y4.cell
  have Y4f := Y4.frozen
  have Y4l := Y4.lt
  go_wp2
  go_ret
  refine ⟨rfl, ?_⟩
  (repeat (first | with_reducible exact U4 | with_reducible refine Up.alloc ?_ _ | with_reducible refine Up.drew ?_ | refine Up.setCell ?_ (by simp <;> omega) _))

set_option maxRecDepth 100000 in
set_option maxHeartbeats 8000000 in
theorem walk_less (m : Me) (P Q : Addr) (c d : Nat) (s a l x y : Int) (p : Int) (w : World) (hm : Sits w m P Q c d) (hwf : m.wf) (hn : m.n ≤ 200) (hr : rgt s a l) (hl : l = m.n) (hp : (x = 0 ∧ y = 0) ∨ (0 ≤ x ∧ x ≤ y ∧ y ≤ a)) (K : Me) (p2 : Int) (n : Int) (f : Nat) (hfu : (a - p).toNat < f) (ht : onf m s a l p = ⟨K, a, p2, 0⟩) (hg : gry m s a f p 0 = n) (h0 : ¬ n < 0) (h1 : n ≤ 100000) :
    Calls Try.prog 3 #[.agg #[.int .i64 m.n, .slice (some P) m.n c, .slice (some Q) m.n d, .int .i64 s, .int .i64 a, .int .i64 l, .int .i64 x, .int .i64 y], .int .i64 p] w (fun e w' => e = .returned (.bool true) ∧ Up w w') := by
  have hf := fun w => fewr_any m.n s a l x y (some P) (some Q) m.n m.n c d w
  rw [fewr_ok m s a l x y hm.1 hn hr hl hp] at hf
  have hf := Lib.hid hf
  have hO := Lib.hid (show ∀ (W : World) (U : Up w W), Calls Try.prog 6 #[rov m.n (sl P m.n c) (sl Q m.n d) s a l x y, .int .i64 p] W (OnPost W K s a l x y p2 0) from fun W U => by
    have q := one_any m s a l x y p P Q c d W (hm.up U) hwf hr hl
    rw [ht] at q
    exact q)
  have hG := Lib.hid (show ∀ (W : World) (U : Up w W), Calls Try.prog 7 #[rov m.n (sl P m.n c) (sl Q m.n d) s a l x y, .int .i64 p] W (fun e w' => e = .returned (.int .i64 n) ∧ Up W w') from fun W U => by
    have q := grey_any m s a l x y p P Q c d W (hm.up U) hwf hr hl f hfu
    rw [hg] at q
    exact q)
  have hk := onf_ke (p := p) hm.1 hwf hr hl
  rw [ht] at hk
  have hKr := hk.rg hr hl
  have hG2 := Lib.hid (show ∀ (P1 Q1 : Addr) (c1 d1 : Nat) (W : World), Sits W K P1 Q1 c1 d1 → Calls Try.prog 7 #[rov K.n (sl P1 K.n c1) (sl Q1 K.n d1) s a l x y, .int .i64 p2] W (fun e w' => e = .returned (.int .i64 (n - 1)) ∧ Up W w') from fun P1 Q1 c1 d1 W S => by
    have q := grey_any K s a l x y p2 P1 Q1 c1 d1 W S hk.wf hKr.1 hKr.2 ((a - p2).toNat + 1) (by omega)
    have e := grey_less (p := p) hm.1 hwf hr hl f ((a - p2).toNat + 1) hfu (by rw [ht]; exact Nat.lt_succ_self _) (by rw [ht]) (by rw [ht]) (by rw [hg]; omega)
    rw [ht, hg] at e
    rw [e] at q
    exact q)
  have q0 : decide (n < 0) = false := decide_eq_false h0
  have q1 : (a != a) = false := by simp
  have hn0 : 0 ≤ n := by omega
  clear hm hwf hn hr hl hp ht hg hfu h0 hk hKr
  go_enter Try.func3, Try.ntmps3
  go_wp2_with (fail)
  refine calls_at (fun V1 hV => ?_)
  have kv : Up w V1 := by rw [hV]; (repeat (first | with_reducible exact Up.refl _ | with_reducible refine Up.alloc ?_ _ | with_reducible refine Up.drew ?_ | refine Up.setCell ?_ (by simp <;> omega) _))
  have Xv : Blk V1 (w.heap.size) 31 #[.int .i64 m.n, .slice (some P) m.n c, .slice (some Q) m.n d, .int .i64 s, .int .i64 a, .int .i64 l, .int .i64 x, .int .i64 y] := by rw [hV]; (repeat (first | with_reducible exact Blk.new' _ (by simp) _ _ | with_reducible refine Blk.alloc ?_ _ | with_reducible refine Blk.drew ?_ | refine Blk.far ?_ (by simp <;> omega) _))
  have Uv : Up w V1 := kv
  clear hV kv 
  refine (shown12 _).mono ?_
  rintro e w1 ⟨rfl, k1⟩
  have X1 := Xv.up k1
  have U1 := Uv.trans k1
  clear k1 Uv Xv 
  have X1c := X1.cell
  have X1f := X1.frozen
  have X1l := X1.lt
  go_wp2_with (fail)
  refine calls_at (fun V2 hV => ?_)
  have kv : Up w1 V2 := by rw [hV]; (repeat (first | with_reducible exact Up.refl _ | with_reducible refine Up.alloc ?_ _ | with_reducible refine Up.drew ?_ | refine Up.setCell ?_ (by simp <;> omega) _))
  have Xv := X1.up kv
  have Uv : Up w V2 := U1.trans kv
  clear hV kv X1 X1c X1f X1l U1
  refine (hf.out _).mono ?_
  rintro e w2 ⟨rfl, k2⟩
  have X2 := Xv.up k2
  have U2 := Uv.trans k2
  clear k2 Uv Xv 
  have X2c := X2.cell
  have X2f := X2.frozen
  have X2l := X2.lt
  go_wp2_with (fail)
  refine calls_at (fun V3 hV => ?_)
  have kv : Up w2 V3 := by rw [hV]; (repeat (first | with_reducible exact Up.refl _ | with_reducible refine Up.alloc ?_ _ | with_reducible refine Up.drew ?_ | refine Up.setCell ?_ (by simp <;> omega) _))
  have Xv := X2.up kv
  have Uv : Up w V3 := U2.trans kv
  clear hV kv X2 X2c X2f X2l U2
  refine (hO.out V3 Uv).mono ?_
  rintro e w3 ⟨P1, Q1, c1, d1, rfl, s13, k3⟩
  have X3 := Xv.up k3
  have U3 := Uv.trans k3
  clear k3 Uv Xv 
  have X3c := X3.cell
  have X3f := X3.frozen
  have X3l := X3.lt
  go_wp2_with (fail)
  refine calls_at (fun V4 hV => ?_)
  have kv : Up w3 V4 := by rw [hV]; (repeat (first | with_reducible exact Up.refl _ | with_reducible refine Up.alloc ?_ _ | with_reducible refine Up.drew ?_ | refine Up.setCell ?_ (by simp <;> omega) _))
  have Xv := X3.up kv
  have Yv : Blk V4 (w3.heap.size) 31 #[.int .i64 K.n, .slice (some P1) K.n c1, .slice (some Q1) K.n d1, .int .i64 s, .int .i64 a, .int .i64 l, .int .i64 x, .int .i64 y] := by rw [hV]; (repeat (first | with_reducible exact Blk.new' _ (by simp) _ _ | with_reducible refine Blk.alloc ?_ _ | with_reducible refine Blk.drew ?_ | refine Blk.far ?_ (by simp <;> omega) _))
  have Uv : Up w V4 := U3.trans kv
  have s1v := s13.up kv
  clear hV kv X3 X3c X3f X3l U3 s13
  refine (hG.out V4 Uv).mono ?_
  rintro e w4 ⟨rfl, k4⟩
  have X4 := Xv.up k4
  have Y4 := Yv.up k4
  have U4 := Uv.trans k4
  have s14 := s1v.up k4
  clear k4 Uv Xv Yv s1v
  have X4c := X4.cell
  have X4f := X4.frozen
  have X4l := X4.lt
  have Y4c := Y4.cell
  have Y4f := Y4.frozen
  have Y4l := Y4.lt
  go_wp2_with (fail)
  refine calls_at (fun V5 hV => ?_)
  have kv : Up w4 V5 := by rw [hV]; (repeat (first | with_reducible exact Up.refl _ | with_reducible refine Up.alloc ?_ _ | with_reducible refine Up.drew ?_ | refine Up.setCell ?_ (by simp <;> omega) _))
  have Xv := X4.up kv
  have Yv := Y4.up kv
  have Uv : Up w V5 := U4.trans kv
  have s1v := s14.up kv
  clear hV kv X4 X4c X4f X4l Y4 Y4c Y4f Y4l U4 s14
  refine (hG2.out P1 Q1 c1 d1 V5 s1v).mono ?_
  rintro e w5 ⟨rfl, k5⟩
  have X5 := Xv.up k5
  have Y5 := Yv.up k5
  have U5 := Uv.trans k5
  have s15 := s1v.up k5
  clear k5 Uv Xv Yv s1v
  have X5c := X5.cell
  have X5f := X5.frozen
  have X5l := X5.lt
  have Y5c := Y5.cell
  have Y5f := Y5.frozen
  have Y5l := Y5.lt
  go_wp2
  go_ret
  refine ⟨rfl, ?_⟩
  (repeat (first | with_reducible exact U5 | with_reducible refine Up.alloc ?_ _ | with_reducible refine Up.drew ?_ | refine Up.setCell ?_ (by simp <;> omega) _))

theorem walk_yes (m : Me) (P Q : Addr) (c d : Nat) (s a l x y : Int) (p : Int) (w : World) (hm : Sits w m P Q c d) (hwf : m.wf) (hn : m.n ≤ 200) (hr : rgt s a l) (hl : l = m.n) (hp : (x = 0 ∧ y = 0) ∨ (0 ≤ x ∧ x ≤ y ∧ y ≤ a)) :
    Calls Try.prog 3 #[.agg #[.int .i64 m.n, .slice (some P) m.n c, .slice (some Q) m.n d, .int .i64 s, .int .i64 a, .int .i64 l, .int .i64 x, .int .i64 y], .int .i64 p] w (fun e w' => e = .returned (.bool true) ∧ Up w w') := by
  have hf : (a - p).toNat < (a - p).toNat + 1 := Nat.lt_succ_self _
  by_cases h0 : (onf m s a l p).e = 0
  · have ht : onf m s a l p = ⟨(onf m s a l p).m, (onf m s a l p).a, (onf m s a l p).p, 0⟩ := by rw [← h0]
    by_cases h1 : gry m s a ((a - p).toNat + 1) p 0 < 0
    · exact walk_not m P Q c d s a l x y p w hm hwf hn hr hl hp _ _ _ _ _ hf ht rfl h1
    by_cases h2 : (onf m s a l p).a = a
    · have hst : ste m s a p = 0 := by
        unfold onf at h0
        split at h0
        · assumption
        · exact absurd h0 (by assumption)
      have h3 := ste_0 hst
      have h4 := (gry_bd (m := m) (s := s) (a := a) ((a - p).toNat + 1) p 0 (by omega)).2
      have h5 := hr.2.2
      rw [h2] at ht
      exact walk_less m P Q c d s a l x y p w hm hwf hn hr hl hp _ _ _ _ hf ht rfl h1 (by omega)
    · exact walk_made m P Q c d s a l x y p w hm hwf hn hr hl hp _ _ _ _ _ hf ht rfl h1 h2
  · by_cases h9 : (onf m s a l p).e = 9
    · have ht : onf m s a l p = ⟨(onf m s a l p).m, (onf m s a l p).a, (onf m s a l p).p, 9⟩ := by rw [← h9]
      exact walk_end m P Q c d s a l x y p w hm hwf hn hr hl hp _ _ _ _ hf ht (grey_none _ hf h9)
    · exact walk_err m P Q c d s a l x y p w hm hwf hn hr hl hp _ _ _ _ _ _ hf rfl rfl h0 h9

theorem walk (N : Int) (A0 A1 : Option Addr) (n0 n1 c0 c1 : Nat) (s a l x y : Int) (xs ys : List Int) (p : Int) (w : World) (hx : SlOk w A0 n0 c0 xs) (hy : SlOk w A1 n1 c1 ys) :
    Calls Try.prog 3 #[.agg #[.int .i64 N, .slice A0 n0 c0, .slice A1 n1 c1, .int .i64 s, .int .i64 a, .int .i64 l, .int .i64 x, .int .i64 y], .int .i64 p] w (fun e w' => e = .returned (.bool true) ∧ Up w w') := by
  cases hfew : fewr N n0 n1 s a l x y
  · exact walk_no N A0 A1 n0 n1 c0 c1 s a l x y p hfew w
  · obtain ⟨rfl, rfl, h16, h200, hr, hl, hp⟩ := fewr_is hfew
    obtain ⟨P, Q, rfl, rfl, hm⟩ := sits_of hx hy h16 (by omega)
    have hwf := sits_wf hx hy
    exact walk_yes ⟨n0, xs, ys⟩ P Q c0 c1 s a l x y p w hm hwf h200 hr hl hp 

theorem own : ownKnob Try.prog.godebug = none := by kernel_rfl
set_option maxRecDepth 100000 in
theorem lifted (os : Os) (started : os.Started) (H : Type) (enc : TypeId × Value → H) :
    ReturnsInHanded {} Try.checked os 3 .any (Rows.scanGreySpec.pre6 enc Try.prog Try.f3 Rows.scanGreyRow.domain false) (Rows.scanGreySpec.post enc Try.prog Try.f3 false true false false) := by
  refine returnsInHanded_of_change (C := Try.checked) own started (by kernel_rfl) Try.func3
    (ChangeSpec.witness6 (enc := enc) (C := Try.checked) false ⟨#[], #[.agg #[.int .i64 0, .slice none 0 0, .slice none 0 0, .int .i64 0, .int .i64 0, .int .i64 0, .int .i64 0, .int .i64 0], .int .i64 0], []⟩ 8 (by kernel_rfl) (by kernel_rfl) (by kernel_rfl) (by kernel_rfl)) ?_
  intro W base args ds gs before hval0 hW hcnd _
  have hval : ∀ (j : Nat) t v, Try.f3.params[j]? = some t → args[j]? = some v → Value.okWide Try.prog W .any base t v := hval0
  have hW' := hW
  obtain ⟨p, q, hA0, hV, rfl, hfz, hnd⟩ := hW
  have hA : DataW.TrodAll enc Try.prog W 0 (fun _ => true) true Try.f3.params.toList args.toList ds p := hA0
  rw [Try.params3] at hA hval
  obtain ⟨v0, vs0, d0, ds0, p0, q0, hargs, rfl, rfl, h0, r0⟩ := trodAll_cons hA
  obtain ⟨v1, vs1, d1, ds1, p1, q1, rfl, rfl, rfl, h1, r1⟩ := trodAll_cons r0
  obtain ⟨rfl, rfl, rfl⟩ := trodAll_nil r1
  obtain rfl : args = #[v0, v1] := by cases args; simp_all
  obtain ⟨rfl, rfl⟩ := trodVars_none hV
  have h0k := h0
  obtain ⟨N, A0, A1, n0, n1, c0, c1, xs, ys, s, a, l, x, y, rfl, hN, hx, hy, hs, ha, hl, hxx, hyy⟩ := room_open (hval 0 31 v0 rfl rfl) h0
  obtain ⟨a1, rfl, rfl, rfl, w1⟩ := open_int Try.underlying3 (hval 1 3 v1 rfl rfl) h1
  clear hA0 hval0
  simp only [List.append_nil, List.nil_append] at hW'
  refine (walk N A0 A1 n0 n1 c0 c1 s a l x y xs ys a1 W hx hy).mono fun e W' ⟨he, hg⟩ => ?_
  subst he
  exact ⟨_, rfl, post_below (pa := p0) (pv := []) hW' (fun _ _ _ => (trodAll_cons_mk (shut_bool Try.underlying4 _) trodAll_mk0))
    (fun sp hsp => by
      have t := (trodAll_cons_mk (trod_keeps (sp := sp) (by kernel_rfl) (of_decide_eq_true (by kernel_rfl)) h0k hg (fun x hx => hW'.lt x (by simp [hx])) (fun x hx => hsp x (by simp [hx]))) (trodAll_cons_mk (shut_int Try.underlying3 w1) trodAll_mk0))
      simp only [List.append_nil, List.nil_append] at t
      exact t) (fun _ _ => rfl) (by simp)
    hg (ok_one (by kernel_rfl) rfl (okWide_bool_mk Try.underlying4 _))⟩

set_option maxRecDepth 100000 in
theorem over : Rows.scanGreyRow.holds Try.pinned (OpenSpec.ofChange Rows.scanGreySpec) :=
  OpenClaim.holds_of_wide 3 Try.f3 rfl rfl rfl rfl rfl rfl rfl ⟨rfl, rfl, rfl, rfl, rfl⟩ rfl rfl rfl rfl rfl (by kernel_rfl) Try.func3 (by kernel_rfl)
    (of_decide_eq_true (by kernel_rfl)) (by unfold Func.isWrapper; first | (rw [if_pos (by decide +kernel)]; kernel_rfl) | (rw [if_neg (by decide +kernel)]; exact ⟨rfl, rfl⟩))
    (fun os started H enc _ => lifted os started H enc)

theorem proved : Rows.ScanGreySaid :=
  over
#print axioms proved
end Go.Proofs.Ytmhnbnifoncodaa.LScanGrey
