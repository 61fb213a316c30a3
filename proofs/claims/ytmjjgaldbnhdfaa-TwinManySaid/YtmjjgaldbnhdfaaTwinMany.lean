/- The statement TwinMany is proved for every input, from contracts of the functions that it calls; no condition is added. -/
import Derived.Test.YtmjjgaldbnhdfaaTw8
namespace Go.Proofs.Ytmjjgaldbnhdfaa.LTwinMany
open Go.Joins Go.ChangeShapes Go.WideShapes Go.ChangeAt Go.RowKit Go.Deep
set_option linter.unusedVariables false
set_option linter.unusedSimpArgs false

set_option maxRecDepth 100000 in
set_option maxHeartbeats 8000000 in
theorem walk_no (N : Int) (A0 A1 : Option Addr) (n0 n1 c0 c1 : Nat) (s a l x y : Int) (LA : Option Addr) (Ln Lc : Nat) (i : Int) (hfew : fewr N n0 n1 s a l x y = false) (w : World) :
    Calls Try.prog 4 #[.agg #[.int .i64 N, .slice A0 n0 c0, .slice A1 n1 c1, .int .i64 s, .int .i64 a, .int .i64 l, .int .i64 x, .int .i64 y], .slice LA Ln Lc, .int .i64 i] w (fun e w' => e = .returned (.bool true) ∧ Up w w') := by
  have hf := fun w => fewr_any N s a l x y A0 A1 n0 n1 c0 c1 w
  rw [hfew] at hf
  have hf := Lib.hid hf
  go_enter Try.func4, Try.ntmps4
  go_wp2_with (fail)
  refine calls_at (fun V1 hV => ?_)
  have kv : Up w V1 := by rw [hV]; (repeat (first | with_reducible exact Up.refl _ | with_reducible refine Up.alloc ?_ _ | with_reducible refine Up.drew ?_ | refine Up.setCell ?_ (by simp <;> omega) _))
  have Xv : Blk V1 (w.heap.size) 31 #[.int .i64 N, .slice A0 n0 c0, .slice A1 n1 c1, .int .i64 s, .int .i64 a, .int .i64 l, .int .i64 x, .int .i64 y] := by rw [hV]; (repeat (first | with_reducible exact Blk.new' _ (by simp) _ _ | with_reducible refine Blk.alloc ?_ _ | with_reducible refine Blk.drew ?_ | refine Blk.far ?_ (by simp <;> omega) _))
  have Uv : Up w V1 := kv
  clear hV kv 
  refine (shown11 _).mono ?_
  rintro e w1 ⟨rfl, k1⟩
  have X1 := Xv.up k1
  have U1 := Uv.trans k1
  clear k1 Uv Xv 
  have X1c := X1.cell
  have X1f := X1.frozen
  have X1l := X1.lt
  go_wp2_with (fail)
  refine calls_at (fun V2 hV => ?_)
  have kv : Up w1 V2 := by rw [hV]; (repeat (first | with_reducible exact Up.refl _ | with_reducible refine Up.alloc ?_ _ | with_reducible refine Up.drew ?_ | refine Up.setCell ?_ (by simp <;> omega) _))
  have Xv := X1.up kv
  have Uv : Up w V2 := U1.trans kv
  clear hV kv X1 X1c X1f X1l U1
  refine (hf.out _).mono ?_
  rintro e w2 ⟨rfl, k2⟩
  have X2 := Xv.up k2
  have U2 := Uv.trans k2
  clear k2 Uv Xv 
  have X2c := X2.cell
  have X2f := X2.frozen
  have X2l := X2.lt
  go_wp2
  go_ret
  refine ⟨rfl, ?_⟩
  (repeat (first | with_reducible exact U2 | with_reducible refine Up.alloc ?_ _ | with_reducible refine Up.drew ?_ | refine Up.setCell ?_ (by simp <;> omega) _))

set_option maxRecDepth 100000 in
set_option maxHeartbeats 8000000 in
theorem walk_long (m : Me) (P Q : Addr) (c d : Nat) (s a l x y : Int) (LA : Option Addr) (Ln Lc : Nat) (i : Int) (w : World) (hm : Sits w m P Q c d) (hwf : m.wf) (hn : m.n ≤ 200) (hr : rgt s a l) (hl : l = m.n) (hp : (x = 0 ∧ y = 0) ∨ (0 ≤ x ∧ x ≤ y ∧ y ≤ a)) (hk : 40 < Ln) :
    Calls Try.prog 4 #[.agg #[.int .i64 m.n, .slice (some P) m.n c, .slice (some Q) m.n d, .int .i64 s, .int .i64 a, .int .i64 l, .int .i64 x, .int .i64 y], .slice LA Ln Lc, .int .i64 i] w (fun e w' => e = .returned (.bool true) ∧ Up w w') := by
  have hf := fun w => fewr_any m.n s a l x y (some P) (some Q) m.n m.n c d w
  rw [fewr_ok m s a l x y hm.1 hn hr hl hp] at hf
  have hf := Lib.hid hf
  have d0 : decide ((40 : Int) < Ln) = true := decide_eq_true (by omega)
  clear hm hwf hn hr hl hp hk
  go_enter Try.func4, Try.ntmps4
  go_wp2_with (fail)
  refine calls_at (fun V1 hV => ?_)
  have kv : Up w V1 := by rw [hV]; (repeat (first | with_reducible exact Up.refl _ | with_reducible refine Up.alloc ?_ _ | with_reducible refine Up.drew ?_ | refine Up.setCell ?_ (by simp <;> omega) _))
  have Xv : Blk V1 (w.heap.size) 31 #[.int .i64 m.n, .slice (some P) m.n c, .slice (some Q) m.n d, .int .i64 s, .int .i64 a, .int .i64 l, .int .i64 x, .int .i64 y] := by rw [hV]; (repeat (first | with_reducible exact Blk.new' _ (by simp) _ _ | with_reducible refine Blk.alloc ?_ _ | with_reducible refine Blk.drew ?_ | refine Blk.far ?_ (by simp <;> omega) _))
  have Uv : Up w V1 := kv
  clear hV kv 
  refine (shown11 _).mono ?_
  rintro e w1 ⟨rfl, k1⟩
  have X1 := Xv.up k1
  have U1 := Uv.trans k1
  clear k1 Uv Xv 
  have X1c := X1.cell
  have X1f := X1.frozen
  have X1l := X1.lt
  go_wp2_with (fail)
  refine calls_at (fun V2 hV => ?_)
  have kv : Up w1 V2 := by rw [hV]; (repeat (first | with_reducible exact Up.refl _ | with_reducible refine Up.alloc ?_ _ | with_reducible refine Up.drew ?_ | refine Up.setCell ?_ (by simp <;> omega) _))
  have Xv := X1.up kv
  have Uv : Up w V2 := U1.trans kv
  clear hV kv X1 X1c X1f X1l U1
  refine (hf.out _).mono ?_
  rintro e w2 ⟨rfl, k2⟩
  have X2 := Xv.up k2
  have U2 := Uv.trans k2
  clear k2 Uv Xv 
  have X2c := X2.cell
  have X2f := X2.frozen
  have X2l := X2.lt
  go_wp2
  go_ret
  refine ⟨rfl, ?_⟩
  (repeat (first | with_reducible exact U2 | with_reducible refine Up.alloc ?_ _ | with_reducible refine Up.drew ?_ | refine Up.setCell ?_ (by simp <;> omega) _))

set_option maxRecDepth 100000 in
set_option maxHeartbeats 8000000 in
theorem walk_err (m : Me) (P Q : Addr) (c d : Nat) (s a l x y : Int) (LA : Option Addr) (Ln Lc : Nat) (i : Int) (w : World) (hm : Sits w m P Q c d) (hwf : m.wf) (hn : m.n ≤ 200) (hr : rgt s a l) (hl : l = m.n) (hp : (x = 0 ∧ y = 0) ∨ (0 ≤ x ∧ x ≤ y ∧ y ≤ a)) (L : List Int) (hL : SlOk w LA Ln Lc L) (hk : Ln ≤ 40) (K : Me) (a' er : Int) (ts : List Int) (hz : eac s l L m a = ⟨K, a', ts, er⟩) (he : er ≠ 0) :
    Calls Try.prog 4 #[.agg #[.int .i64 m.n, .slice (some P) m.n c, .slice (some Q) m.n d, .int .i64 s, .int .i64 a, .int .i64 l, .int .i64 x, .int .i64 y], .slice LA Ln Lc, .int .i64 i] w (fun e w' => e = .returned (.bool true) ∧ Up w w') := by
  have hf := fun w => fewr_any m.n s a l x y (some P) (some Q) m.n m.n c d w
  rw [fewr_ok m s a l x y hm.1 hn hr hl hp] at hf
  have hf := Lib.hid hf
  have d0 : decide ((40 : Int) < Ln) = false := decide_eq_false (by omega)
  have d1 : (er != 0) = true := bne_iff_ne.mpr he
  have hE := Lib.hid (show ∀ (W : World) (U : Up w W), Calls Try.prog 12 #[rov m.n (sl P m.n c) (sl Q m.n d) s a l x y, .slice LA Ln Lc] W (fun e w' => ∃ (P' Q' : Addr) (c' d' : Nat) (A' : Option Addr) (n' k' : Nat), e = .returned (.tuple #[rov K.n (sl P' K.n c') (sl Q' K.n d') s a' l x y, .slice A' n' k', .int .i64 er]) ∧ Sits w' K P' Q' c' d' ∧ Up W w') from fun W U => by
    refine (each_any m s a l x y P Q c d LA Ln Lc L W (hm.up U) hwf hr hl (hL.1.up U) hL.2.2.2 (by omega)).mono ?_
    rw [hz]
    rintro e w' ⟨P', Q', c', d', A', n', k', rfl, h1, h2, h3, _⟩
    exact ⟨P', Q', c', d', A', n', k', rfl, h1, h2⟩)
  clear hm hwf hn hr hl hp hk hL hz he
  go_enter Try.func4, Try.ntmps4
  go_wp2_with (fail)
  refine calls_at (fun V1 hV => ?_)
  have kv : Up w V1 := by rw [hV]; (repeat (first | with_reducible exact Up.refl _ | with_reducible refine Up.alloc ?_ _ | with_reducible refine Up.drew ?_ | refine Up.setCell ?_ (by simp <;> omega) _))
  have Xv : Blk V1 (w.heap.size) 31 #[.int .i64 m.n, .slice (some P) m.n c, .slice (some Q) m.n d, .int .i64 s, .int .i64 a, .int .i64 l, .int .i64 x, .int .i64 y] := by rw [hV]; (repeat (first | with_reducible exact Blk.new' _ (by simp) _ _ | with_reducible refine Blk.alloc ?_ _ | with_reducible refine Blk.drew ?_ | refine Blk.far ?_ (by simp <;> omega) _))
  have Uv : Up w V1 := kv
  clear hV kv 
  refine (shown11 _).mono ?_
  rintro e w1 ⟨rfl, k1⟩
  have X1 := Xv.up k1
  have U1 := Uv.trans k1
  clear k1 Uv Xv 
  have X1c := X1.cell
  have X1f := X1.frozen
  have X1l := X1.lt
  go_wp2_with (fail)
  refine calls_at (fun V2 hV => ?_)
  have kv : Up w1 V2 := by rw [hV]; (repeat (first | with_reducible exact Up.refl _ | with_reducible refine Up.alloc ?_ _ | with_reducible refine Up.drew ?_ | refine Up.setCell ?_ (by simp <;> omega) _))
  have Xv := X1.up kv
  have Uv : Up w V2 := U1.trans kv
  clear hV kv X1 X1c X1f X1l U1
  refine (hf.out _).mono ?_
  rintro e w2 ⟨rfl, k2⟩
  have X2 := Xv.up k2
  have U2 := Uv.trans k2
  clear k2 Uv Xv 
  have X2c := X2.cell
  have X2f := X2.frozen
  have X2l := X2.lt
  go_wp2_with (fail)
  refine calls_at (fun V3 hV => ?_)
  have kv : Up w2 V3 := by rw [hV]; (repeat (first | with_reducible exact Up.refl _ | with_reducible refine Up.alloc ?_ _ | with_reducible refine Up.drew ?_ | refine Up.setCell ?_ (by simp <;> omega) _))
  have Xv := X2.up kv
  have Uv : Up w V3 := U2.trans kv
  clear hV kv X2 X2c X2f X2l U2
  refine (hE.out V3 Uv).mono ?_
  rintro e w3 ⟨P1, Q1, c1, d1, A1, n1, k1_, rfl, s13, k3⟩
  have X3 := Xv.up k3
  have U3 := Uv.trans k3
  clear k3 Uv Xv 
  have X3c := X3.cell
  have X3f := X3.frozen
  have X3l := X3.lt
  go_wp2
  go_ret
  refine ⟨rfl, ?_⟩
  (repeat (first | with_reducible exact U3 | with_reducible refine Up.alloc ?_ _ | with_reducible refine Up.drew ?_ | refine Up.setCell ?_ (by simp <;> omega) _))

set_option maxRecDepth 100000 in
set_option maxHeartbeats 8000000 in
theorem walk_neg (m : Me) (P Q : Addr) (c d : Nat) (s a l x y : Int) (LA : Option Addr) (Ln Lc : Nat) (i : Int) (w : World) (hm : Sits w m P Q c d) (hwf : m.wf) (hn : m.n ≤ 200) (hr : rgt s a l) (hl : l = m.n) (hp : (x = 0 ∧ y = 0) ∨ (0 ≤ x ∧ x ≤ y ∧ y ≤ a)) (L : List Int) (hL : SlOk w LA Ln Lc L) (hk : Ln ≤ 40) (K : Me) (a' : Int) (ts : List Int) (hz : eac s l L m a = ⟨K, a', ts, 0⟩) (hi : i < 0) :
    Calls Try.prog 4 #[.agg #[.int .i64 m.n, .slice (some P) m.n c, .slice (some Q) m.n d, .int .i64 s, .int .i64 a, .int .i64 l, .int .i64 x, .int .i64 y], .slice LA Ln Lc, .int .i64 i] w (fun e w' => e = .returned (.bool true) ∧ Up w w') := by
  have hf := fun w => fewr_any m.n s a l x y (some P) (some Q) m.n m.n c d w
  rw [fewr_ok m s a l x y hm.1 hn hr hl hp] at hf
  have hf := Lib.hid hf
  have d0 : decide ((40 : Int) < Ln) = false := decide_eq_false (by omega)
  have d1 : decide (i < 0) = true := decide_eq_true hi
  have hlen : ts.length = Ln := by have := eac_len (s := s) (l := l) L m a (by rw [hz]); rw [hz] at this; exact this.trans hL.1.1
  have hE := Lib.hid (show ∀ (W : World) (U : Up w W), Calls Try.prog 12 #[rov m.n (sl P m.n c) (sl Q m.n d) s a l x y, .slice LA Ln Lc] W (fun e w' => ∃ (P' Q' : Addr) (c' d' : Nat) (A' : Option Addr) (k' : Nat), e = .returned (.tuple #[rov K.n (sl P' K.n c') (sl Q' K.n d') s a' l x y, .slice A' Ln k', .int .i64 0]) ∧ Sits w' K P' Q' c' d' ∧ Up W w' ∧ Hid (Rd w' A' Ln ts)) from fun W U => by
    refine (each_any m s a l x y P Q c d LA Ln Lc L W (hm.up U) hwf hr hl (hL.1.up U) hL.2.2.2 (by omega)).mono ?_
    rw [hz]
    rintro e w' ⟨P', Q', c', d', A', n', k', rfl, h1, h2, h3, _⟩
    have h4 := h3 rfl
    have h5 : n' = Ln := h4.1.symm.trans hlen
    subst h5
    exact ⟨P', Q', c', d', A', k', rfl, h1, h2, Lib.hid h4⟩)
  clear hm hwf hn hr hl hp hk hL hz hi hlen
  go_enter Try.func4, Try.ntmps4
  go_wp2_with (fail)
  refine calls_at (fun V1 hV => ?_)
  have kv : Up w V1 := by rw [hV]; (repeat (first | with_reducible exact Up.refl _ | with_reducible refine Up.alloc ?_ _ | with_reducible refine Up.drew ?_ | refine Up.setCell ?_ (by simp <;> omega) _))
  have Xv : Blk V1 (w.heap.size) 31 #[.int .i64 m.n, .slice (some P) m.n c, .slice (some Q) m.n d, .int .i64 s, .int .i64 a, .int .i64 l, .int .i64 x, .int .i64 y] := by rw [hV]; (repeat (first | with_reducible exact Blk.new' _ (by simp) _ _ | with_reducible refine Blk.alloc ?_ _ | with_reducible refine Blk.drew ?_ | refine Blk.far ?_ (by simp <;> omega) _))
  have Uv : Up w V1 := kv
  clear hV kv 
  refine (shown11 _).mono ?_
  rintro e w1 ⟨rfl, k1⟩
  have X1 := Xv.up k1
  have U1 := Uv.trans k1
  clear k1 Uv Xv 
  have X1c := X1.cell
  have X1f := X1.frozen
  have X1l := X1.lt
  go_wp2_with (fail)
  refine calls_at (fun V2 hV => ?_)
  have kv : Up w1 V2 := by rw [hV]; (repeat (first | with_reducible exact Up.refl _ | with_reducible refine Up.alloc ?_ _ | with_reducible refine Up.drew ?_ | refine Up.setCell ?_ (by simp <;> omega) _))
  have Xv := X1.up kv
  have Uv : Up w V2 := U1.trans kv
  clear hV kv X1 X1c X1f X1l U1
  refine (hf.out _).mono ?_
  rintro e w2 ⟨rfl, k2⟩
  have X2 := Xv.up k2
  have U2 := Uv.trans k2
  clear k2 Uv Xv 
  have X2c := X2.cell
  have X2f := X2.frozen
  have X2l := X2.lt
  go_wp2_with (fail)
  refine calls_at (fun V3 hV => ?_)
  have kv : Up w2 V3 := by rw [hV]; (repeat (first | with_reducible exact Up.refl _ | with_reducible refine Up.alloc ?_ _ | with_reducible refine Up.drew ?_ | refine Up.setCell ?_ (by simp <;> omega) _))
  have Xv := X2.up kv
  have Uv : Up w V3 := U2.trans kv
  clear hV kv X2 X2c X2f X2l U2
  refine (hE.out V3 Uv).mono ?_
  rintro e w3 ⟨P1, Q1, c1, d1, A1, k1_, rfl, s13, k3, -⟩
  have X3 := Xv.up k3
  have U3 := Uv.trans k3
  clear k3 Uv Xv 
  have X3c := X3.cell
  have X3f := X3.frozen
  have X3l := X3.lt
  go_wp2
  go_ret
  refine ⟨rfl, ?_⟩
  (repeat (first | with_reducible exact U3 | with_reducible refine Up.alloc ?_ _ | with_reducible refine Up.drew ?_ | refine Up.setCell ?_ (by simp <;> omega) _))

set_option maxRecDepth 100000 in
set_option maxHeartbeats 8000000 in
theorem walk_far (m : Me) (P Q : Addr) (c d : Nat) (s a l x y : Int) (LA : Option Addr) (Ln Lc : Nat) (i : Int) (w : World) (hm : Sits w m P Q c d) (hwf : m.wf) (hn : m.n ≤ 200) (hr : rgt s a l) (hl : l = m.n) (hp : (x = 0 ∧ y = 0) ∨ (0 ≤ x ∧ x ≤ y ∧ y ≤ a)) (L : List Int) (hL : SlOk w LA Ln Lc L) (hk : Ln ≤ 40) (K : Me) (a' : Int) (ts : List Int) (hz : eac s l L m a = ⟨K, a', ts, 0⟩) (hi : (Ln : Int) ≤ i) :
    Calls Try.prog 4 #[.agg #[.int .i64 m.n, .slice (some P) m.n c, .slice (some Q) m.n d, .int .i64 s, .int .i64 a, .int .i64 l, .int .i64 x, .int .i64 y], .slice LA Ln Lc, .int .i64 i] w (fun e w' => e = .returned (.bool true) ∧ Up w w') := by
  have hf := fun w => fewr_any m.n s a l x y (some P) (some Q) m.n m.n c d w
  rw [fewr_ok m s a l x y hm.1 hn hr hl hp] at hf
  have hf := Lib.hid hf
  have d0 : decide ((40 : Int) < Ln) = false := decide_eq_false (by omega)
  have d1 : decide (i < 0) = false := decide_eq_false (by omega)
  have d2 : decide ((Ln : Int) ≤ i) = true := decide_eq_true hi
  have hlen : ts.length = Ln := by have := eac_len (s := s) (l := l) L m a (by rw [hz]); rw [hz] at this; exact this.trans hL.1.1
  have hE := Lib.hid (show ∀ (W : World) (U : Up w W), Calls Try.prog 12 #[rov m.n (sl P m.n c) (sl Q m.n d) s a l x y, .slice LA Ln Lc] W (fun e w' => ∃ (P' Q' : Addr) (c' d' : Nat) (A' : Option Addr) (k' : Nat), e = .returned (.tuple #[rov K.n (sl P' K.n c') (sl Q' K.n d') s a' l x y, .slice A' Ln k', .int .i64 0]) ∧ Sits w' K P' Q' c' d' ∧ Up W w' ∧ Hid (Rd w' A' Ln ts)) from fun W U => by
    refine (each_any m s a l x y P Q c d LA Ln Lc L W (hm.up U) hwf hr hl (hL.1.up U) hL.2.2.2 (by omega)).mono ?_
    rw [hz]
    rintro e w' ⟨P', Q', c', d', A', n', k', rfl, h1, h2, h3, _⟩
    have h4 := h3 rfl
    have h5 : n' = Ln := h4.1.symm.trans hlen
    subst h5
    exact ⟨P', Q', c', d', A', k', rfl, h1, h2, Lib.hid h4⟩)
  clear hm hwf hn hr hl hp hk hL hz hi hlen
  go_enter Try.func4, Try.ntmps4
  go_wp2_with (fail)
  refine calls_at (fun V1 hV => ?_)
  have kv : Up w V1 := by rw [hV]; (repeat (first | with_reducible exact Up.refl _ | with_reducible refine Up.alloc ?_ _ | with_reducible refine Up.drew ?_ | refine Up.setCell ?_ (by simp <;> omega) _))
  have Xv : Blk V1 (w.heap.size) 31 #[.int .i64 m.n, .slice (some P) m.n c, .slice (some Q) m.n d, .int .i64 s, .int .i64 a, .int .i64 l, .int .i64 x, .int .i64 y] := by rw [hV]; (repeat (first | with_reducible exact Blk.new' _ (by simp) _ _ | with_reducible refine Blk.alloc ?_ _ | with_reducible refine Blk.drew ?_ | refine Blk.far ?_ (by simp <;> omega) _))
  have Uv : Up w V1 := kv
  clear hV kv 
  refine (shown11 _).mono ?_
  rintro e w1 ⟨rfl, k1⟩
  have X1 := Xv.up k1
  have U1 := Uv.trans k1
  clear k1 Uv Xv 
  have X1c := X1.cell
  have X1f := X1.frozen
  have X1l := X1.lt
  go_wp2_with (fail)
  refine calls_at (fun V2 hV => ?_)
  have kv : Up w1 V2 := by rw [hV]; (repeat (first | with_reducible exact Up.refl _ | with_reducible refine Up.alloc ?_ _ | with_reducible refine Up.drew ?_ | refine Up.setCell ?_ (by simp <;> omega) _))
  have Xv := X1.up kv
  have Uv : Up w V2 := U1.trans kv
  clear hV kv X1 X1c X1f X1l U1
  refine (hf.out _).mono ?_
  rintro e w2 ⟨rfl, k2⟩
  have X2 := Xv.up k2
  have U2 := Uv.trans k2
  clear k2 Uv Xv 
  have X2c := X2.cell
  have X2f := X2.frozen
  have X2l := X2.lt
  go_wp2_with (fail)
  refine calls_at (fun V3 hV => ?_)
  have kv : Up w2 V3 := by rw [hV]; (repeat (first | with_reducible exact Up.refl _ | with_reducible refine Up.alloc ?_ _ | with_reducible refine Up.drew ?_ | refine Up.setCell ?_ (by simp <;> omega) _))
  have Xv := X2.up kv
  have Uv : Up w V3 := U2.trans kv
  clear hV kv X2 X2c X2f X2l U2
  refine (hE.out V3 Uv).mono ?_
  rintro e w3 ⟨P1, Q1, c1, d1, A1, k1_, rfl, s13, k3, -⟩
  have X3 := Xv.up k3
  have U3 := Uv.trans k3
  clear k3 Uv Xv 
  have X3c := X3.cell
  have X3f := X3.frozen
  have X3l := X3.lt
  go_wp2
  go_ret
  refine ⟨rfl, ?_⟩
  (repeat (first | with_reducible exact U3 | with_reducible refine Up.alloc ?_ _ | with_reducible refine Up.drew ?_ | refine Up.setCell ?_ (by simp <;> omega) _))

set_option maxRecDepth 100000 in
set_option maxHeartbeats 8000000 in
theorem walk_zero (m : Me) (P Q : Addr) (c d : Nat) (s a l x y : Int) (LA : Option Addr) (Ln Lc k : Nat) (w : World) (hm : Sits w m P Q c d) (hwf : m.wf) (hn : m.n ≤ 200) (hr : rgt s a l) (hl : l = m.n) (hp : (x = 0 ∧ y = 0) ∨ (0 ≤ x ∧ x ≤ y ∧ y ≤ a)) (L : List Int) (hL : SlOk w LA Ln Lc L) (hk : Ln ≤ 40) (K : Me) (a' : Int) (ts : List Int) (hz : eac s l L m a = ⟨K, a', ts, 0⟩) (B T : Int) (hB : L.getD k 0 = B) (hBU : U64 B) (hkl : k < Ln) (h0 : B = 0) (hT : ts.getD k 0 = B) :
    Calls Try.prog 4 #[.agg #[.int .i64 m.n, .slice (some P) m.n c, .slice (some Q) m.n d, .int .i64 s, .int .i64 a, .int .i64 l, .int .i64 x, .int .i64 y], .slice LA Ln Lc, .int .i64 k] w (fun e w' => e = .returned (.bool true) ∧ Up w w') := by
  have hf := fun w => fewr_any m.n s a l x y (some P) (some Q) m.n m.n c d w
  rw [fewr_ok m s a l x y hm.1 hn hr hl hp] at hf
  have hf := Lib.hid hf
  have d0 : decide ((40 : Int) < Ln) = false := decide_eq_false (by omega)
  have d1 : decide ((k : Int) < 0) = false := decide_eq_false (by omega)
  have d2 : decide ((Ln : Int) ≤ k) = false := decide_eq_false (by omega)
  have hlen : ts.length = Ln := by have := eac_len (s := s) (l := l) L m a (by rw [hz]); rw [hz] at this; exact this.trans hL.1.1
  have hE := Lib.hid (show ∀ (W : World) (U : Up w W), Calls Try.prog 12 #[rov m.n (sl P m.n c) (sl Q m.n d) s a l x y, .slice LA Ln Lc] W (fun e w' => ∃ (P' Q' : Addr) (c' d' : Nat) (A' : Option Addr) (k' : Nat), e = .returned (.tuple #[rov K.n (sl P' K.n c') (sl Q' K.n d') s a' l x y, .slice A' Ln k', .int .i64 0]) ∧ Sits w' K P' Q' c' d' ∧ Up W w' ∧ Hid (Rd w' A' Ln ts)) from fun W U => by
    refine (each_any m s a l x y P Q c d LA Ln Lc L W (hm.up U) hwf hr hl (hL.1.up U) hL.2.2.2 (by omega)).mono ?_
    rw [hz]
    rintro e w' ⟨P', Q', c', d', A', n', k', rfl, h1, h2, h3, _⟩
    have h4 := h3 rfl
    have h5 : n' = Ln := h4.1.symm.trans hlen
    subst h5
    exact ⟨P', Q', c', d', A', k', rfl, h1, h2, Lib.hid h4⟩)
  obtain ⟨p, rfl, hrow⟩ := hL.1.2 (by omega)
  have hts := Lib.hid hT
  have hO := fun W => rover_any m.n s a l x y B (sl P m.n c) (sl Q m.n d) W hBU
  have d3 : (B == 0) = true := beq_iff_eq.mpr h0
  generalize ovb s B = b0 at hO
  have hO := Lib.hid hO
  have hLl := hL.1.1
  have hkl' := hkl
  clear hm hwf hn hr hl hp hk hz h0 hT hL hBU
  go_enter Try.func4, Try.ntmps4
  go_wp2_with (fail)
  refine calls_at (fun V1 hV => ?_)
  have kv : Up w V1 := by rw [hV]; (repeat (first | with_reducible exact Up.refl _ | with_reducible refine Up.alloc ?_ _ | with_reducible refine Up.drew ?_ | refine Up.setCell ?_ (by simp <;> omega) _))
  have Xv : Blk V1 (w.heap.size) 31 #[.int .i64 m.n, .slice (some P) m.n c, .slice (some Q) m.n d, .int .i64 s, .int .i64 a, .int .i64 l, .int .i64 x, .int .i64 y] := by rw [hV]; (repeat (first | with_reducible exact Blk.new' _ (by simp) _ _ | with_reducible refine Blk.alloc ?_ _ | with_reducible refine Blk.drew ?_ | refine Blk.far ?_ (by simp <;> omega) _))
  have Uv : Up w V1 := kv
  clear hV kv 
  refine (shown11 _).mono ?_
  rintro e w1 ⟨rfl, k1⟩
  have X1 := Xv.up k1
  have U1 := Uv.trans k1
  clear k1 Uv Xv 
  have X1c := X1.cell
  have X1f := X1.frozen
  have X1l := X1.lt
  go_wp2_with (fail)
  refine calls_at (fun V2 hV => ?_)
  have kv : Up w1 V2 := by rw [hV]; (repeat (first | with_reducible exact Up.refl _ | with_reducible refine Up.alloc ?_ _ | with_reducible refine Up.drew ?_ | refine Up.setCell ?_ (by simp <;> omega) _))
  have Xv := X1.up kv
  have Uv : Up w V2 := U1.trans kv
  clear hV kv X1 X1c X1f X1l U1
  refine (hf.out _).mono ?_
  rintro e w2 ⟨rfl, k2⟩
  have X2 := Xv.up k2
  have U2 := Uv.trans k2
  clear k2 Uv Xv 
  have X2c := X2.cell
  have X2f := X2.frozen
  have X2l := X2.lt
  go_wp2_with (fail)
  refine calls_at (fun V3 hV => ?_)
  have kv : Up w2 V3 := by rw [hV]; (repeat (first | with_reducible exact Up.refl _ | with_reducible refine Up.alloc ?_ _ | with_reducible refine Up.drew ?_ | refine Up.setCell ?_ (by simp <;> omega) _))
  have Xv := X2.up kv
  have Uv : Up w V3 := U2.trans kv
  clear hV kv X2 X2c X2f X2l U2
  refine (hE.out V3 Uv).mono ?_
  rintro e w3 ⟨P1, Q1, c1, d1, A1, k1_, rfl, s13, k3, HR⟩
  have X3 := Xv.up k3
  have U3 := Uv.trans k3
  clear k3 Uv Xv 
  have X3c := X3.cell
  have X3f := X3.frozen
  have X3l := X3.lt
  obtain ⟨p1, rfl, hrow1⟩ := HR.out.2 (by omega)
  clear HR
  go_wp2_with (fail)
  obtain ⟨W0, hW0⟩ : ∃ W0 : World, W0 = (w3.alloc (.cells #[.int .i64 K.n, .slice (some P1) K.n c1, .slice (some Q1) K.n d1, .int .i64 s, .int .i64 a', .int .i64 l, .int .i64 x, .int .i64 y] 31)).drew := ⟨_, rfl⟩
  have U0 : Up W0 (w3.alloc (.cells #[.int .i64 K.n, .slice (some P1) K.n c1, .slice (some Q1) K.n d1, .int .i64 s, .int .i64 a', .int .i64 l, .int .i64 x, .int .i64 y] 31)).drew := by rw [hW0]; exact Up.refl _
  have UW : Up w3 W0 := by rw [hW0]; exact ((Up.refl _).alloc _).drew
  have X0 := X3.up UW
  have Y0 : Blk W0 w3.heap.size 31 #[.int .i64 K.n, .slice (some P1) K.n c1, .slice (some Q1) K.n d1, .int .i64 s, .int .i64 a', .int .i64 l, .int .i64 x, .int .i64 y] := by rw [hW0]; exact (Blk.new _ _ _).drew
  have S0 := s13.up UW
  have UU := U3.trans UW
  have hat0 := Lib.hid (fun (V : World) (hV : Up W0 V) => (hrow.up (UU.trans hV)).at_ k (by rw [hLl]; exact hkl))
  have hat1 := Lib.hid (fun (V : World) (hV : Up W0 V) => (hrow1.up (UW.trans hV)).at_ k (by rw [hlen]; exact hkl))
  rw [hB] at hat0
  rw [hts.out] at hat1
  clear hts hB hLl hlen hkl'
  clear hW0 hrow hrow1 UW X3 X3c X3f X3l s13 U3
  go_region_held3 (fun w' => (∀ i, w'.cell? ⟨w.heap.size, i, none⟩ = (#[.int .i64 m.n, .slice (some P) m.n c, .slice (some Q) m.n d, .int .i64 s, .int .i64 a, .int .i64 l, .int .i64 x, .int .i64 y] : Array Value)[i]?) ∧ w'.cell? (p.add k) = some (.int .u64 B))
    (exact ⟨fun i => (Blk.up X0 (by assumption)).cell i, hat0.out _ (by assumption)⟩)
    (first
      | (go_at_call 13; ((with_reducible refine (hO.out _).mono ?_); rintro e wz ⟨rfl, hz⟩; have UZ := Up.trans (a := W0) (by assumption) hz)))
  all_goals
    have e0 := hat0.out _ UZ
    have e1 := hat1.out _ UZ
    have UF := UU.trans UZ
    clear hat0 hat1 UU UZ X0 Y0 S0 U0 hz
    go_wp2_with (fail)
    go_quiet (fail)
    go_wp2
    go_ret
    exact ⟨rfl, UF.drewN _⟩

set_option maxRecDepth 100000 in
set_option maxHeartbeats 8000000 in
theorem walk_over (m : Me) (P Q : Addr) (c d : Nat) (s a l x y : Int) (LA : Option Addr) (Ln Lc k : Nat) (w : World) (hm : Sits w m P Q c d) (hwf : m.wf) (hn : m.n ≤ 200) (hr : rgt s a l) (hl : l = m.n) (hp : (x = 0 ∧ y = 0) ∨ (0 ≤ x ∧ x ≤ y ∧ y ≤ a)) (L : List Int) (hL : SlOk w LA Ln Lc L) (hk : Ln ≤ 40) (K : Me) (a' : Int) (ts : List Int) (hz : eac s l L m a = ⟨K, a', ts, 0⟩) (B T : Int) (hB : L.getD k 0 = B) (hBU : U64 B) (hkl : k < Ln) (h0 : B ≠ 0) (h1 : ovb s B = true) (hT : ts.getD k 0 = B) :
    Calls Try.prog 4 #[.agg #[.int .i64 m.n, .slice (some P) m.n c, .slice (some Q) m.n d, .int .i64 s, .int .i64 a, .int .i64 l, .int .i64 x, .int .i64 y], .slice LA Ln Lc, .int .i64 k] w (fun e w' => e = .returned (.bool true) ∧ Up w w') := by
  have hf := fun w => fewr_any m.n s a l x y (some P) (some Q) m.n m.n c d w
  rw [fewr_ok m s a l x y hm.1 hn hr hl hp] at hf
  have hf := Lib.hid hf
  have d0 : decide ((40 : Int) < Ln) = false := decide_eq_false (by omega)
  have d1 : decide ((k : Int) < 0) = false := decide_eq_false (by omega)
  have d2 : decide ((Ln : Int) ≤ k) = false := decide_eq_false (by omega)
  have hlen : ts.length = Ln := by have := eac_len (s := s) (l := l) L m a (by rw [hz]); rw [hz] at this; exact this.trans hL.1.1
  have hE := Lib.hid (show ∀ (W : World) (U : Up w W), Calls Try.prog 12 #[rov m.n (sl P m.n c) (sl Q m.n d) s a l x y, .slice LA Ln Lc] W (fun e w' => ∃ (P' Q' : Addr) (c' d' : Nat) (A' : Option Addr) (k' : Nat), e = .returned (.tuple #[rov K.n (sl P' K.n c') (sl Q' K.n d') s a' l x y, .slice A' Ln k', .int .i64 0]) ∧ Sits w' K P' Q' c' d' ∧ Up W w' ∧ Hid (Rd w' A' Ln ts)) from fun W U => by
    refine (each_any m s a l x y P Q c d LA Ln Lc L W (hm.up U) hwf hr hl (hL.1.up U) hL.2.2.2 (by omega)).mono ?_
    rw [hz]
    rintro e w' ⟨P', Q', c', d', A', n', k', rfl, h1, h2, h3, _⟩
    have h4 := h3 rfl
    have h5 : n' = Ln := h4.1.symm.trans hlen
    subst h5
    exact ⟨P', Q', c', d', A', k', rfl, h1, h2, Lib.hid h4⟩)
  obtain ⟨p, rfl, hrow⟩ := hL.1.2 (by omega)
  have hts := Lib.hid hT
  have hO := fun W => rover_any m.n s a l x y B (sl P m.n c) (sl Q m.n d) W hBU
  have d3 : (B == 0) = false := beq_eq_false_iff_ne.mpr h0
  rw [h1] at hO
  have hO := Lib.hid hO
  have hLl := hL.1.1
  have hkl' := hkl
  clear hm hwf hn hr hl hp hk hz h0 hT h1 hL hBU
  go_enter Try.func4, Try.ntmps4
  go_wp2_with (fail)
  refine calls_at (fun V1 hV => ?_)
  have kv : Up w V1 := by rw [hV]; (repeat (first | with_reducible exact Up.refl _ | with_reducible refine Up.alloc ?_ _ | with_reducible refine Up.drew ?_ | refine Up.setCell ?_ (by simp <;> omega) _))
  have Xv : Blk V1 (w.heap.size) 31 #[.int .i64 m.n, .slice (some P) m.n c, .slice (some Q) m.n d, .int .i64 s, .int .i64 a, .int .i64 l, .int .i64 x, .int .i64 y] := by rw [hV]; (repeat (first | with_reducible exact Blk.new' _ (by simp) _ _ | with_reducible refine Blk.alloc ?_ _ | with_reducible refine Blk.drew ?_ | refine Blk.far ?_ (by simp <;> omega) _))
  have Uv : Up w V1 := kv
  clear hV kv 
  refine (shown11 _).mono ?_
  rintro e w1 ⟨rfl, k1⟩
  have X1 := Xv.up k1
  have U1 := Uv.trans k1
  clear k1 Uv Xv 
  have X1c := X1.cell
  have X1f := X1.frozen
  have X1l := X1.lt
  go_wp2_with (fail)
  refine calls_at (fun V2 hV => ?_)
  have kv : Up w1 V2 := by rw [hV]; (repeat (first | with_reducible exact Up.refl _ | with_reducible refine Up.alloc ?_ _ | with_reducible refine Up.drew ?_ | refine Up.setCell ?_ (by simp <;> omega) _))
  have Xv := X1.up kv
  have Uv : Up w V2 := U1.trans kv
  clear hV kv X1 X1c X1f X1l U1
  refine (hf.out _).mono ?_
  rintro e w2 ⟨rfl, k2⟩
  have X2 := Xv.up k2
  have U2 := Uv.trans k2
  clear k2 Uv Xv 
  have X2c := X2.cell
  have X2f := X2.frozen
  have X2l := X2.lt
  go_wp2_with (fail)
  refine calls_at (fun V3 hV => ?_)
  have kv : Up w2 V3 := by rw [hV]; (repeat (first | with_reducible exact Up.refl _ | with_reducible refine Up.alloc ?_ _ | with_reducible refine Up.drew ?_ | refine Up.setCell ?_ (by simp <;> omega) _))
  have Xv := X2.up kv
  have Uv : Up w V3 := U2.trans kv
  clear hV kv X2 X2c X2f X2l U2
  refine (hE.out V3 Uv).mono ?_
  rintro e w3 ⟨P1, Q1, c1, d1, A1, k1_, rfl, s13, k3, HR⟩
  have X3 := Xv.up k3
  have U3 := Uv.trans k3
  clear k3 Uv Xv 
  have X3c := X3.cell
  have X3f := X3.frozen
  have X3l := X3.lt
  obtain ⟨p1, rfl, hrow1⟩ := HR.out.2 (by omega)
  clear HR
  go_wp2_with (fail)
  obtain ⟨W0, hW0⟩ : ∃ W0 : World, W0 = (w3.alloc (.cells #[.int .i64 K.n, .slice (some P1) K.n c1, .slice (some Q1) K.n d1, .int .i64 s, .int .i64 a', .int .i64 l, .int .i64 x, .int .i64 y] 31)).drew := ⟨_, rfl⟩
  have U0 : Up W0 (w3.alloc (.cells #[.int .i64 K.n, .slice (some P1) K.n c1, .slice (some Q1) K.n d1, .int .i64 s, .int .i64 a', .int .i64 l, .int .i64 x, .int .i64 y] 31)).drew := by rw [hW0]; exact Up.refl _
  have UW : Up w3 W0 := by rw [hW0]; exact ((Up.refl _).alloc _).drew
  have X0 := X3.up UW
  have Y0 : Blk W0 w3.heap.size 31 #[.int .i64 K.n, .slice (some P1) K.n c1, .slice (some Q1) K.n d1, .int .i64 s, .int .i64 a', .int .i64 l, .int .i64 x, .int .i64 y] := by rw [hW0]; exact (Blk.new _ _ _).drew
  have S0 := s13.up UW
  have UU := U3.trans UW
  have hat0 := Lib.hid (fun (V : World) (hV : Up W0 V) => (hrow.up (UU.trans hV)).at_ k (by rw [hLl]; exact hkl))
  have hat1 := Lib.hid (fun (V : World) (hV : Up W0 V) => (hrow1.up (UW.trans hV)).at_ k (by rw [hlen]; exact hkl))
  rw [hB] at hat0
  rw [hts.out] at hat1
  clear hts hB hLl hlen hkl'
  clear hW0 hrow hrow1 UW X3 X3c X3f X3l s13 U3
  go_region_held3 (fun w' => (∀ i, w'.cell? ⟨w.heap.size, i, none⟩ = (#[.int .i64 m.n, .slice (some P) m.n c, .slice (some Q) m.n d, .int .i64 s, .int .i64 a, .int .i64 l, .int .i64 x, .int .i64 y] : Array Value)[i]?) ∧ w'.cell? (p.add k) = some (.int .u64 B))
    (exact ⟨fun i => (Blk.up X0 (by assumption)).cell i, hat0.out _ (by assumption)⟩)
    (first
      | (go_at_call 13; ((with_reducible refine (hO.out _).mono ?_); rintro e wz ⟨rfl, hz⟩; have UZ := Up.trans (a := W0) (by assumption) hz)))
  all_goals
    have e0 := hat0.out _ UZ
    have e1 := hat1.out _ UZ
    have UF := UU.trans UZ
    clear hat0 hat1 UU UZ X0 Y0 S0 U0 hz
    go_wp2_with (fail)
    go_quiet (fail)
    go_wp2
    go_ret
    exact ⟨rfl, UF.drewN _⟩

set_option maxRecDepth 100000 in
set_option maxHeartbeats 8000000 in
theorem walk_twin (m : Me) (P Q : Addr) (c d : Nat) (s a l x y : Int) (LA : Option Addr) (Ln Lc k : Nat) (w : World) (hm : Sits w m P Q c d) (hwf : m.wf) (hn : m.n ≤ 200) (hr : rgt s a l) (hl : l = m.n) (hp : (x = 0 ∧ y = 0) ∨ (0 ≤ x ∧ x ≤ y ∧ y ≤ a)) (L : List Int) (hL : SlOk w LA Ln Lc L) (hk : Ln ≤ 40) (K : Me) (a' : Int) (ts : List Int) (hz : eac s l L m a = ⟨K, a', ts, 0⟩) (B T : Int) (hB : L.getD k 0 = B) (hBU : U64 B) (hkl : k < Ln) (h0 : B ≠ 0) (h1 : ovb s B = false) (h2 : K.kne B = 0) (h3 : K.twv B = T) (h4 : T ≠ 0) (hT : ts.getD k 0 = T) (hKw : K.wf) :
    Calls Try.prog 4 #[.agg #[.int .i64 m.n, .slice (some P) m.n c, .slice (some Q) m.n d, .int .i64 s, .int .i64 a, .int .i64 l, .int .i64 x, .int .i64 y], .slice LA Ln Lc, .int .i64 k] w (fun e w' => e = .returned (.bool true) ∧ Up w w') := by
  have hf := fun w => fewr_any m.n s a l x y (some P) (some Q) m.n m.n c d w
  rw [fewr_ok m s a l x y hm.1 hn hr hl hp] at hf
  have hf := Lib.hid hf
  have d0 : decide ((40 : Int) < Ln) = false := decide_eq_false (by omega)
  have d1 : decide ((k : Int) < 0) = false := decide_eq_false (by omega)
  have d2 : decide ((Ln : Int) ≤ k) = false := decide_eq_false (by omega)
  have hlen : ts.length = Ln := by have := eac_len (s := s) (l := l) L m a (by rw [hz]); rw [hz] at this; exact this.trans hL.1.1
  have hE := Lib.hid (show ∀ (W : World) (U : Up w W), Calls Try.prog 12 #[rov m.n (sl P m.n c) (sl Q m.n d) s a l x y, .slice LA Ln Lc] W (fun e w' => ∃ (P' Q' : Addr) (c' d' : Nat) (A' : Option Addr) (k' : Nat), e = .returned (.tuple #[rov K.n (sl P' K.n c') (sl Q' K.n d') s a' l x y, .slice A' Ln k', .int .i64 0]) ∧ Sits w' K P' Q' c' d' ∧ Up W w' ∧ Hid (Rd w' A' Ln ts)) from fun W U => by
    refine (each_any m s a l x y P Q c d LA Ln Lc L W (hm.up U) hwf hr hl (hL.1.up U) hL.2.2.2 (by omega)).mono ?_
    rw [hz]
    rintro e w' ⟨P', Q', c', d', A', n', k', rfl, h1, h2, h3, _⟩
    have h4 := h3 rfl
    have h5 : n' = Ln := h4.1.symm.trans hlen
    subst h5
    exact ⟨P', Q', c', d', A', k', rfl, h1, h2, Lib.hid h4⟩)
  obtain ⟨p, rfl, hrow⟩ := hL.1.2 (by omega)
  have hts := Lib.hid hT
  have hO := fun W => rover_any m.n s a l x y B (sl P m.n c) (sl Q m.n d) W hBU
  have d3 : (B == 0) = false := beq_eq_false_iff_ne.mpr h0
  rw [h1] at hO
  have hO := Lib.hid hO
  have hM : mdb K s B = true := by
    unfold mdb
    rw [d3, h2, h3, bne_iff_ne.mpr h4]
    rfl
  have hTw := Lib.hid (fun (P1 Q1 : Addr) (c1 d1 : Nat) (W : World) (h : Sits W K P1 Q1 c1 d1) => rtwin_any K B P1 Q1 c1 d1 W h hBU hKw)
  rw [h2, h3] at hTw
  have hMd := Lib.hid (fun (P1 Q1 : Addr) (c1 d1 : Nat) (W : World) (h : Sits W K P1 Q1 c1 d1) => made_any K s a' l x y B P1 Q1 c1 d1 W h hBU hKw)
  rw [hM] at hMd
  have hLl := hL.1.1
  have hkl' := hkl
  clear hm hwf hn hr hl hp hk hz h0 h1 h2 h3 hT h4 hM hKw hL hBU
  go_enter Try.func4, Try.ntmps4
  go_wp2_with (fail)
  refine calls_at (fun V1 hV => ?_)
  have kv : Up w V1 := by rw [hV]; (repeat (first | with_reducible exact Up.refl _ | with_reducible refine Up.alloc ?_ _ | with_reducible refine Up.drew ?_ | refine Up.setCell ?_ (by simp <;> omega) _))
  have Xv : Blk V1 (w.heap.size) 31 #[.int .i64 m.n, .slice (some P) m.n c, .slice (some Q) m.n d, .int .i64 s, .int .i64 a, .int .i64 l, .int .i64 x, .int .i64 y] := by rw [hV]; (repeat (first | with_reducible exact Blk.new' _ (by simp) _ _ | with_reducible refine Blk.alloc ?_ _ | with_reducible refine Blk.drew ?_ | refine Blk.far ?_ (by simp <;> omega) _))
  have Uv : Up w V1 := kv
  clear hV kv 
  refine (shown11 _).mono ?_
  rintro e w1 ⟨rfl, k1⟩
  have X1 := Xv.up k1
  have U1 := Uv.trans k1
  clear k1 Uv Xv 
  have X1c := X1.cell
  have X1f := X1.frozen
  have X1l := X1.lt
  go_wp2_with (fail)
  refine calls_at (fun V2 hV => ?_)
  have kv : Up w1 V2 := by rw [hV]; (repeat (first | with_reducible exact Up.refl _ | with_reducible refine Up.alloc ?_ _ | with_reducible refine Up.drew ?_ | refine Up.setCell ?_ (by simp <;> omega) _))
  have Xv := X1.up kv
  have Uv : Up w V2 := U1.trans kv
  clear hV kv X1 X1c X1f X1l U1
  refine (hf.out _).mono ?_
  rintro e w2 ⟨rfl, k2⟩
  have X2 := Xv.up k2
  have U2 := Uv.trans k2
  clear k2 Uv Xv 
  have X2c := X2.cell
  have X2f := X2.frozen
  have X2l := X2.lt
  go_wp2_with (fail)
  refine calls_at (fun V3 hV => ?_)
  have kv : Up w2 V3 := by rw [hV]; (repeat (first | with_reducible exact Up.refl _ | with_reducible refine Up.alloc ?_ _ | with_reducible refine Up.drew ?_ | refine Up.setCell ?_ (by simp <;> omega) _))
  have Xv := X2.up kv
  have Uv : Up w V3 := U2.trans kv
  clear hV kv X2 X2c X2f X2l U2
  refine (hE.out V3 Uv).mono ?_
  rintro e w3 ⟨P1, Q1, c1, d1, A1, k1_, rfl, s13, k3, HR⟩
  have X3 := Xv.up k3
  have U3 := Uv.trans k3
  clear k3 Uv Xv 
  have X3c := X3.cell
  have X3f := X3.frozen
  have X3l := X3.lt
  obtain ⟨p1, rfl, hrow1⟩ := HR.out.2 (by omega)
  clear HR
  go_wp2_with (fail)
  obtain ⟨W0, hW0⟩ : ∃ W0 : World, W0 = (w3.alloc (.cells #[.int .i64 K.n, .slice (some P1) K.n c1, .slice (some Q1) K.n d1, .int .i64 s, .int .i64 a', .int .i64 l, .int .i64 x, .int .i64 y] 31)).drew := ⟨_, rfl⟩
  have U0 : Up W0 (w3.alloc (.cells #[.int .i64 K.n, .slice (some P1) K.n c1, .slice (some Q1) K.n d1, .int .i64 s, .int .i64 a', .int .i64 l, .int .i64 x, .int .i64 y] 31)).drew := by rw [hW0]; exact Up.refl _
  have UW : Up w3 W0 := by rw [hW0]; exact ((Up.refl _).alloc _).drew
  have X0 := X3.up UW
  have Y0 : Blk W0 w3.heap.size 31 #[.int .i64 K.n, .slice (some P1) K.n c1, .slice (some Q1) K.n d1, .int .i64 s, .int .i64 a', .int .i64 l, .int .i64 x, .int .i64 y] := by rw [hW0]; exact (Blk.new _ _ _).drew
  have S0 := s13.up UW
  have UU := U3.trans UW
  have hat0 := Lib.hid (fun (V : World) (hV : Up W0 V) => (hrow.up (UU.trans hV)).at_ k (by rw [hLl]; exact hkl))
  have hat1 := Lib.hid (fun (V : World) (hV : Up W0 V) => (hrow1.up (UW.trans hV)).at_ k (by rw [hlen]; exact hkl))
  rw [hB] at hat0
  rw [hts.out] at hat1
  clear hts hB hLl hlen hkl'
  clear hW0 hrow hrow1 UW X3 X3c X3f X3l s13 U3
  go_region_held3 (fun w' => (∀ i, w'.cell? ⟨w.heap.size, i, none⟩ = (#[.int .i64 m.n, .slice (some P) m.n c, .slice (some Q) m.n d, .int .i64 s, .int .i64 a, .int .i64 l, .int .i64 x, .int .i64 y] : Array Value)[i]?) ∧ w'.cell? (p.add k) = some (.int .u64 B))
    (exact ⟨fun i => (Blk.up X0 (by assumption)).cell i, hat0.out _ (by assumption)⟩)
    (first
      | (go_at_call 13; ((with_reducible refine (hO.out _).mono ?_); rintro e wz ⟨rfl, hz⟩; have UZ := Up.trans (a := W0) (by assumption) hz)))
  all_goals
    have e0 := hat0.out _ UZ
    have e1 := hat1.out _ UZ
    go_wp2_with (fail)
    have T0 : Up W0 wz.drew := UZ.drew
    go_region_held3 (fun w' => (∀ i, w'.cell? ⟨w3.heap.size, i, none⟩ = (#[.int .i64 K.n, .slice (some P1) K.n c1, .slice (some Q1) K.n d1, .int .i64 s, .int .i64 a', .int .i64 l, .int .i64 x, .int .i64 y] : Array Value)[i]?) ∧ w'.cell? (p.add k) = some (.int .u64 B))
      (exact ⟨fun i => (Blk.up Y0 (by assumption)).cell i, hat0.out _ (by assumption)⟩)
      (first
        | (go_at_call 14; ((with_reducible refine (hTw.out _ _ _ _ _ (S0.up (by assumption))).mono ?_); rintro e wy ⟨rfl, hy⟩; have UY := Up.trans (a := W0) (by assumption) hy)))
  all_goals
    clear e0 e1 T0 UZ hz hy U0
    go_wp2_with (fail)
    have T1 : Up W0 wy.drew := UY.drew
    go_region_held3 (fun w' => (∀ i, w'.cell? ⟨w3.heap.size, i, none⟩ = (#[.int .i64 K.n, .slice (some P1) K.n c1, .slice (some Q1) K.n d1, .int .i64 s, .int .i64 a', .int .i64 l, .int .i64 x, .int .i64 y] : Array Value)[i]?) ∧ w'.cell? (p.add k) = some (.int .u64 B) ∧ w'.cell? (p1.add k) = some (.int .u64 T))
      (exact ⟨fun i => (Blk.up Y0 (by assumption)).cell i, hat0.out _ (by assumption), hat1.out _ (by assumption)⟩)
      (first
        | (go_at_call 15; ((with_reducible refine (hMd.out _ _ _ _ _ (S0.up (by assumption))).mono ?_); rintro e wx ⟨rfl, hx⟩; have UX := Up.trans (a := W0) (by assumption) hx)))
  all_goals
    go_wp2
    go_ret
    exact ⟨rfl, UU.trans UX⟩

theorem walk_yes (m : Me) (P Q : Addr) (c d : Nat) (s a l x y : Int) (LA : Option Addr) (Ln Lc : Nat) (i : Int) (L : List Int) (w : World) (hm : Sits w m P Q c d) (hwf : m.wf) (hn : m.n ≤ 200) (hr : rgt s a l) (hl : l = m.n) (hp : (x = 0 ∧ y = 0) ∨ (0 ≤ x ∧ x ≤ y ∧ y ≤ a)) (hL : SlOk w LA Ln Lc L) :
    Calls Try.prog 4 #[.agg #[.int .i64 m.n, .slice (some P) m.n c, .slice (some Q) m.n d, .int .i64 s, .int .i64 a, .int .i64 l, .int .i64 x, .int .i64 y], .slice LA Ln Lc, .int .i64 i] w (fun e w' => e = .returned (.bool true) ∧ Up w w') := by
  by_cases hk : Ln ≤ 40
  · by_cases he : (eac s l L m a).e = 0
    · have hz : eac s l L m a = ⟨(eac s l L m a).m, (eac s l L m a).a, (eac s l L m a).ts, 0⟩ := by rw [← he]
      by_cases h1 : i < 0
      · exact walk_neg m P Q c d s a l x y LA Ln Lc i w hm hwf hn hr hl hp L hL hk _ _ _ hz h1
      by_cases h2 : (Ln : Int) ≤ i
      · exact walk_far m P Q c d s a l x y LA Ln Lc i w hm hwf hn hr hl hp L hL hk _ _ _ hz h2
      obtain ⟨k, rfl⟩ : ∃ k : Nat, i = k := ⟨i.toNat, by omega⟩
      have hkl : k < Ln := by omega
      have hkL : k < L.length := by rw [hL.1.1]; exact hkl
      have hBU : U64 (L.getD k 0) := hL.2.2.2 _ (by simp [List.getD, List.getElem?_eq_getElem hkL])
      have hat := eac_at (s := s) (l := l) L m a hm.1 hwf hr hl he k hkL
      have hla := eac_la (s := s) (l := l) L m a hm.1 hwf hr hl
      by_cases h3 : L.getD k 0 = 0
      · exact walk_zero m P Q c d s a l x y LA Ln Lc k w hm hwf hn hr hl hp L hL hk _ _ _ hz _ 0 rfl hBU hkl h3 (hat.1 (.inl h3))
      by_cases h4 : ovb s (L.getD k 0) = true
      · exact walk_over m P Q c d s a l x y LA Ln Lc k w hm hwf hn hr hl hp L hL hk _ _ _ hz _ 0 rfl hBU hkl h3 h4 (hat.1 (.inr h4))
      have h5 : ovb s (L.getD k 0) = false := by simpa using h4
      have h6 := hat.2 h3 h5
      exact walk_twin m P Q c d s a l x y LA Ln Lc k w hm hwf hn hr hl hp L hL hk _ _ _ hz _ _ rfl hBU hkl h3 h5 h6.1 h6.2.1 h6.2.2 rfl hla.wf
    · exact walk_err m P Q c d s a l x y LA Ln Lc i w hm hwf hn hr hl hp L hL hk (eac s l L m a).m (eac s l L m a).a (eac s l L m a).e (eac s l L m a).ts rfl he
  · exact walk_long m P Q c d s a l x y LA Ln Lc i w hm hwf hn hr hl hp (by omega)

theorem walk (N : Int) (A0 A1 : Option Addr) (n0 n1 c0 c1 : Nat) (s a l x y : Int) (xs ys : List Int) (LA : Option Addr) (Ln Lc : Nat) (i : Int) (L : List Int) (w : World) (hx : SlOk w A0 n0 c0 xs) (hy : SlOk w A1 n1 c1 ys) (hL : SlOk w LA Ln Lc L) :
    Calls Try.prog 4 #[.agg #[.int .i64 N, .slice A0 n0 c0, .slice A1 n1 c1, .int .i64 s, .int .i64 a, .int .i64 l, .int .i64 x, .int .i64 y], .slice LA Ln Lc, .int .i64 i] w (fun e w' => e = .returned (.bool true) ∧ Up w w') := by
  cases hfew : fewr N n0 n1 s a l x y
  · exact walk_no N A0 A1 n0 n1 c0 c1 s a l x y LA Ln Lc i hfew w
  · obtain ⟨rfl, rfl, h16, h200, hr, hl, hp⟩ := fewr_is hfew
    obtain ⟨P, Q, rfl, rfl, hm⟩ := sits_of hx hy h16 (by omega)
    have hwf := sits_wf hx hy
    exact walk_yes ⟨n0, xs, ys⟩ P Q c0 c1 s a l x y LA Ln Lc i L w hm hwf h200 hr hl hp hL

theorem own : ownKnob Try.prog.godebug = none := by kernel_rfl
set_option maxRecDepth 100000 in
theorem lifted (os : Os) (started : os.Started) (H : Type) (enc : TypeId × Value → H) :
    ReturnsInHanded {} Try.checked os 4 .any (Rows.twinManySpec.pre6 enc Try.prog Try.f4 Rows.twinManyRow.domain false) (Rows.twinManySpec.post enc Try.prog Try.f4 false true false false) := by
  refine returnsInHanded_of_change (C := Try.checked) own started (by kernel_rfl) Try.func4
    (ChangeSpec.witness6 (enc := enc) (C := Try.checked) false ⟨#[], #[.agg #[.int .i64 0, .slice none 0 0, .slice none 0 0, .int .i64 0, .int .i64 0, .int .i64 0, .int .i64 0, .int .i64 0], .slice none 0 0, .int .i64 0], []⟩ 8 (by kernel_rfl) (by kernel_rfl) (by kernel_rfl) (by kernel_rfl)) ?_
  intro W base args ds gs before hval0 hW hcnd _
  have hval : ∀ (j : Nat) t v, Try.f4.params[j]? = some t → args[j]? = some v → Value.okWide Try.prog W .any base t v := hval0
  have hW' := hW
  obtain ⟨p, q, hA0, hV, rfl, hfz, hnd⟩ := hW
  have hA : DataW.TrodAll enc Try.prog W 0 (fun _ => true) true Try.f4.params.toList args.toList ds p := hA0
  rw [Try.params4] at hA hval
  obtain ⟨v0, vs0, d0, ds0, p0, q0, hargs, rfl, rfl, h0, r0⟩ := trodAll_cons hA
  obtain ⟨v1, vs1, d1, ds1, p1, q1, rfl, rfl, rfl, h1, r1⟩ := trodAll_cons r0
  obtain ⟨v2, vs2, d2, ds2, p2, q2, rfl, rfl, rfl, h2, r2⟩ := trodAll_cons r1
  obtain ⟨rfl, rfl, rfl⟩ := trodAll_nil r2
  obtain rfl : args = #[v0, v1, v2] := by cases args; simp_all
  obtain ⟨rfl, rfl⟩ := trodVars_none hV
  have h0k := h0
  obtain ⟨N, A0, A1, n0, n1, c0, c1, xs, ys, s, a, l, x, y, rfl, hN, hx, hy, hs, ha, hl, hxx, hyy⟩ := room_open (hval 0 31 v0 rfl rfl) h0
  have h1k := h1
  obtain ⟨LA, Ln, Lc, L, rfl, hL⟩ := words_at (hval 1 22 v1 rfl rfl) h1
  obtain ⟨a2, rfl, rfl, rfl, w2⟩ := open_int Try.underlying3 (hval 2 3 v2 rfl rfl) h2
  clear hA0 hval0
  simp only [List.append_nil, List.nil_append] at hW'
  refine (walk N A0 A1 n0 n1 c0 c1 s a l x y xs ys LA Ln Lc a2 L W hx hy hL).mono fun e W' ⟨he, hg⟩ => ?_
  subst he
  exact ⟨_, rfl, post_below (pa := p0 ++ p1) (pv := []) hW' (fun _ _ _ => (trodAll_cons_mk (shut_bool Try.underlying4 _) trodAll_mk0))
    (fun sp hsp => by
      have t := (trodAll_cons_mk (trod_keeps (sp := sp) (by kernel_rfl) (of_decide_eq_true (by kernel_rfl)) h0k hg (fun x hx => hW'.lt x (by simp [hx])) (fun x hx => hsp x (by simp [hx]))) (trodAll_cons_mk (trod_keeps (sp := sp) (by kernel_rfl) (of_decide_eq_true (by kernel_rfl)) h1k hg (fun x hx => hW'.lt x (by simp [hx])) (fun x hx => hsp x (by simp [hx]))) (trodAll_cons_mk (shut_int Try.underlying3 w2) trodAll_mk0)))
      simp only [List.append_nil, List.nil_append] at t
      exact t) (fun _ _ => rfl) (by simp)
    hg (ok_one (by kernel_rfl) rfl (okWide_bool_mk Try.underlying4 _))⟩

set_option maxRecDepth 100000 in
theorem over : Rows.twinManyRow.holds Try.pinned (OpenSpec.ofChange Rows.twinManySpec) :=
  OpenClaim.holds_of_wide 4 Try.f4 rfl rfl rfl rfl rfl rfl rfl ⟨rfl, rfl, rfl, rfl, rfl⟩ rfl rfl rfl rfl rfl (by kernel_rfl) Try.func4 (by kernel_rfl)
    (of_decide_eq_true (by kernel_rfl)) (by unfold Func.isWrapper; first | (rw [if_pos (by decide +kernel)]; kernel_rfl) | (rw [if_neg (by decide +kernel)]; exact ⟨rfl, rfl⟩))
    (fun os started H enc _ => lifted os started H enc)

theorem proved : Rows.TwinManySaid :=
  over
#print axioms proved
end Go.Proofs.Ytmjjgaldbnhdfaa.LTwinMany
