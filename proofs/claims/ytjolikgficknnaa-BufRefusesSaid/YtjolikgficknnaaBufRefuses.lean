/- The statement BufRefuses is proved for every input, from contracts of the functions that it calls; no condition is added. -/
import Derived.Test.YtjolikgficknnaaBf7
import Derived.Test.YtjolikgficknnaaBf8
import Derived.Deep.RegionHeld3
import Derived.Test.YtjolikgficknnaaBf10
namespace Go.Proofs.Ytjolikgficknnaa.LBufRefuses
open Go.Joins Go.ChangeShapes Go.WideShapes Go.ChangeAt Go.RowKit Go.Deep
set_option linter.unusedVariables false
set_option linter.unusedSimpArgs false

theorem fewr_ok (m : Me) (s a l x y : Int) (h : m.ok) (hn : m.n ≤ 200) (hr : rgt s a l) (hl : l = m.n) (hp : (x = 0 ∧ y = 0) ∨ (0 ≤ x ∧ x ≤ y ∧ y ≤ a)) : fewr m.n m.n m.n s a l x y = true := by
  have h16 := h.1
  have e1 : rt m.n m.n m.n = true := decide_eq_true ⟨by omega, by omega, rfl, rfl⟩
  have e2 : rgb s a l = true := decide_eq_true hr
  have e3 : decide (l = m.n) = true := decide_eq_true hl
  have e4 : pcb a x y = true := decide_eq_true hp
  have e5 : decide ((m.n : Int) ≤ 200) = true := decide_eq_true (by omega)
  unfold fewr rob
  rw [e1, e2, e3, e4, e5]
  rfl
theorem make_yes (m : Me) (P Q : Addr) (c d : Nat) (s a l x y : Int) (t k mp size : Int) (w : World) (hm : Sits w m P Q c d) (hmp : 0 ≤ mp) (hh : rte t k mp = 0) (ht : t ≠ 255) (hs : rgt s a l) (hl : l = m.n) (h0 : 0 ≤ x) (h1 : x ≤ y) (h2 : y ≤ a) (hn : y - x < wdn t k) (hn3 : wdn t k ≤ l - a) :
    Calls Try.prog 12 #[rov m.n (.slice (some P) m.n c) (.slice (some Q) m.n d) s a l x y, hdv t k mp, .int .i64 size] w fun e w' => ∃ (K : Me) (a' x' y' b : Int), GivesR2 w K s a' l x' y' b 0 e w' := by
  have hal := hs.2.2.1
  by_cases h : size < 2 * wdn t k
  · exact (make_b m P Q c d s a l x y t k mp size w hm hmp hh ht hs h0 (by omega) (by omega) h1 hn h hn3).mono fun e w' q => ⟨_, _, _, _, _, q⟩
  · by_cases hne : x ≠ 0 ∨ y ≠ 0
    · exact (make_c m P Q c d s a l x y t k mp size w hm hmp hh ht hs hl h0 h1 (by omega) hne hn (by omega) hn3).mono fun e w' q => ⟨_, _, _, _, _, q⟩
    · obtain rfl : x = 0 := by omega
      obtain rfl : y = 0 := by omega
      exact (make_ce m P Q c d s a l t k mp size w hm hmp hh ht hs hl (by omega) hn3).mono fun e w' q => ⟨_, _, _, _, _, q⟩
theorem make_no (m : Me) (P Q : Addr) (c d : Nat) (s a l x y : Int) (t k mp size : Int) (w : World) (hm : Sits w m P Q c d) (hmp : 0 ≤ mp) (hh : rte t k mp = 0) (ht : t ≠ 255) (hs : rgt s a l) (hl : l = m.n) (h0 : 0 ≤ x) (h1 : x ≤ y) (h2 : y ≤ a) (hn : y - x < wdn t k) (hn3 : l - a < wdn t k) :
    Calls Try.prog 12 #[rov m.n (.slice (some P) m.n c) (.slice (some Q) m.n d) s a l x y, hdv t k mp, .int .i64 size] w fun e w' => ∃ (K : Me) (a' x' y' b : Int), GivesR2 w K s a' l x' y' b 4 e w' := by
  have hal := hs.2.2.1
  by_cases h : size < 2 * wdn t k
  · exact (make_bf m P Q c d s a l x y t k mp size w hm hmp hh ht hs h0 (by omega) h1 hn h hn3).mono fun e w' q => ⟨_, _, _, _, _, q⟩
  · by_cases hne : x ≠ 0 ∨ y ≠ 0
    · exact (make_cf m P Q c d s a l x y t k mp size w hm hmp hh ht hs hl h0 h1 (by omega) hne hn (by omega) hn3).mono fun e w' q => ⟨_, _, _, _, _, q⟩
    · obtain rfl : x = 0 := by omega
      obtain rfl : y = 0 := by omega
      exact (make_cef m P Q c d s a l t k mp size w hm hmp hh ht hs hl (by omega) hn3).mono fun e w' q => ⟨_, _, _, _, _, q⟩
set_option maxRecDepth 100000 in
set_option maxHeartbeats 8000000 in
theorem walk_no (N : Int) (A0 A1 : Option Addr) (n0 n1 c0 c1 : Nat) (s a l x y : Int) (t k mp size : Int) (hfew : fewr N n0 n1 s a l x y = false) (w : World) :
    Calls Try.prog 4 #[.agg #[.int .i64 N, .slice A0 n0 c0, .slice A1 n1 c1, .int .i64 s, .int .i64 a, .int .i64 l, .int .i64 x, .int .i64 y], .agg #[.int .i64 t, .int .i64 k, .int .u64 mp], .int .i64 size] w (fun e w' => e = .returned (.bool true) ∧ Up w w') := by
  have hf := fun w => fewr_any N s a l x y A0 A1 n0 n1 c0 c1 w
  rw [hfew] at hf
  have hf := Lib.hid hf
  go_enter Try.func4, Try.ntmps4
  go_wp2_with (fail)
  refine calls_at (fun V1 hV => ?_)
  have kv : Up w V1 := by rw [hV]; (repeat (first | with_reducible exact Up.refl _ | with_reducible refine Up.alloc ?_ _ | with_reducible refine Up.drew ?_ | refine Up.setCell ?_ (by simp <;> omega) _))
  have Xv : Blk V1 (w.heap.size) 31 #[.int .i64 N, .slice A0 n0 c0, .slice A1 n1 c1, .int .i64 s, .int .i64 a, .int .i64 l, .int .i64 x, .int .i64 y] := by rw [hV]; (repeat (first | with_reducible exact Blk.new' _ (by simp) _ _ | with_reducible refine Blk.alloc ?_ _ | with_reducible refine Blk.drew ?_ | refine Blk.far ?_ (by simp <;> omega) _))
  have Hv : Blk V1 (w.heap.size + 1) 39 #[.int .i64 t, .int .i64 k, .int .u64 mp] := by rw [hV]; (repeat (first | with_reducible exact Blk.new' _ (by simp) _ _ | with_reducible refine Blk.alloc ?_ _ | with_reducible refine Blk.drew ?_ | refine Blk.far ?_ (by simp <;> omega) _))
  have Uv : Up w V1 := kv
  clear hV kv 
  refine (shown8 _).mono ?_
  rintro e w1 ⟨rfl, k1⟩
  have X1 := Xv.up k1
  have H1 := Hv.up k1
  have U1 := Uv.trans k1
  clear k1 Uv Xv Hv 
  have X1c := X1.cell
  have X1f := X1.frozen
  have X1l := X1.lt
  have H1c := H1.cell
  have H1f := H1.frozen
  have H1l := H1.lt
  go_wp2_with (fail)
  refine calls_at (fun V2 hV => ?_)
  have kv : Up w1 V2 := by rw [hV]; (repeat (first | with_reducible exact Up.refl _ | with_reducible refine Up.alloc ?_ _ | with_reducible refine Up.drew ?_ | refine Up.setCell ?_ (by simp <;> omega) _))
  have Xv := X1.up kv
  have Hv := H1.up kv
  have Uv : Up w V2 := U1.trans kv
  clear hV kv X1 X1c X1f X1l H1 H1c H1f H1l U1
  refine (hf.out _).mono ?_
  rintro e w2 ⟨rfl, k2⟩
  have X2 := Xv.up k2
  have H2 := Hv.up k2
  have U2 := Uv.trans k2
  clear k2 Uv Xv Hv 
  have X2c := X2.cell
  have X2f := X2.frozen
  have X2l := X2.lt
  have H2c := H2.cell
  have H2f := H2.frozen
  have H2l := H2.lt
  go_wp2
  go_ret
  refine ⟨rfl, ?_⟩
  (repeat (first | with_reducible exact U2 | with_reducible refine Up.alloc ?_ _ | with_reducible refine Up.drew ?_ | refine Up.setCell ?_ (by simp <;> omega) _))

set_option maxRecDepth 100000 in
set_option maxHeartbeats 8000000 in
theorem walk_bad (m : Me) (P Q : Addr) (c d : Nat) (s a l x y : Int) (t k mp size : Int) (w : World) (hm : Sits w m P Q c d) (hn : m.n ≤ 200) (hr : rgt s a l) (hl : l = m.n) (hp : (x = 0 ∧ y = 0) ∨ (0 ≤ x ∧ x ≤ y ∧ y ≤ a)) (hmp : 0 ≤ mp) (hh : rte t k mp ≠ 0) :
    Calls Try.prog 4 #[.agg #[.int .i64 m.n, .slice (some P) m.n c, .slice (some Q) m.n d, .int .i64 s, .int .i64 a, .int .i64 l, .int .i64 x, .int .i64 y], .agg #[.int .i64 t, .int .i64 k, .int .u64 mp], .int .i64 size] w (fun e w' => e = .returned (.bool true) ∧ Up w w') := by
  have hf := fun w => fewr_any m.n s a l x y (some P) (some Q) m.n m.n c d w
  rw [fewr_ok m s a l x y hm.1 hn hr hl hp] at hf
  have hf := Lib.hid hf
  have hrt := fun w => rright_any t k mp hmp w
  have dz : (rte t k mp != 0) = true := bne_iff_ne.mpr hh
  generalize rte t k mp = z at hrt dz
  have hrt := Lib.hid hrt
  clear hm hn hr hl hp hmp hh
  go_enter Try.func4, Try.ntmps4
  go_wp2_with (fail)
  refine calls_at (fun V1 hV => ?_)
  have kv : Up w V1 := by rw [hV]; (repeat (first | with_reducible exact Up.refl _ | with_reducible refine Up.alloc ?_ _ | with_reducible refine Up.drew ?_ | refine Up.setCell ?_ (by simp <;> omega) _))
  have Xv : Blk V1 (w.heap.size) 31 #[.int .i64 m.n, .slice (some P) m.n c, .slice (some Q) m.n d, .int .i64 s, .int .i64 a, .int .i64 l, .int .i64 x, .int .i64 y] := by rw [hV]; (repeat (first | with_reducible exact Blk.new' _ (by simp) _ _ | with_reducible refine Blk.alloc ?_ _ | with_reducible refine Blk.drew ?_ | refine Blk.far ?_ (by simp <;> omega) _))
  have Hv : Blk V1 (w.heap.size + 1) 39 #[.int .i64 t, .int .i64 k, .int .u64 mp] := by rw [hV]; (repeat (first | with_reducible exact Blk.new' _ (by simp) _ _ | with_reducible refine Blk.alloc ?_ _ | with_reducible refine Blk.drew ?_ | refine Blk.far ?_ (by simp <;> omega) _))
  have Uv : Up w V1 := kv
  clear hV kv 
  refine (shown8 _).mono ?_
  rintro e w1 ⟨rfl, k1⟩
  have X1 := Xv.up k1
  have H1 := Hv.up k1
  have U1 := Uv.trans k1
  clear k1 Uv Xv Hv 
  have X1c := X1.cell
  have X1f := X1.frozen
  have X1l := X1.lt
  have H1c := H1.cell
  have H1f := H1.frozen
  have H1l := H1.lt
  go_wp2_with (fail)
  refine calls_at (fun V2 hV => ?_)
  have kv : Up w1 V2 := by rw [hV]; (repeat (first | with_reducible exact Up.refl _ | with_reducible refine Up.alloc ?_ _ | with_reducible refine Up.drew ?_ | refine Up.setCell ?_ (by simp <;> omega) _))
  have Xv := X1.up kv
  have Hv := H1.up kv
  have Uv : Up w V2 := U1.trans kv
  clear hV kv X1 X1c X1f X1l H1 H1c H1f H1l U1
  refine (hf.out _).mono ?_
  rintro e w2 ⟨rfl, k2⟩
  have X2 := Xv.up k2
  have H2 := Hv.up k2
  have U2 := Uv.trans k2
  clear k2 Uv Xv Hv 
  have X2c := X2.cell
  have X2f := X2.frozen
  have X2l := X2.lt
  have H2c := H2.cell
  have H2f := H2.frozen
  have H2l := H2.lt
  go_wp2_with (fail)
  refine calls_at (fun V3 hV => ?_)
  have kv : Up w2 V3 := by rw [hV]; (repeat (first | with_reducible exact Up.refl _ | with_reducible refine Up.alloc ?_ _ | with_reducible refine Up.drew ?_ | refine Up.setCell ?_ (by simp <;> omega) _))
  have Xv := X2.up kv
  have Hv := H2.up kv
  have Uv : Up w V3 := U2.trans kv
  clear hV kv X2 X2c X2f X2l H2 H2c H2f H2l U2
  refine (hrt.out _).mono ?_
  rintro e w3 ⟨rfl, k3⟩
  have X3 := Xv.up k3
  have H3 := Hv.up k3
  have U3 := Uv.trans k3
  clear k3 Uv Xv Hv 
  have X3c := X3.cell
  have X3f := X3.frozen
  have X3l := X3.lt
  have H3c := H3.cell
  have H3f := H3.frozen
  have H3l := H3.lt
  go_wp2
  go_ret
  refine ⟨rfl, ?_⟩
  (repeat (first | with_reducible exact U3 | with_reducible refine Up.alloc ?_ _ | with_reducible refine Up.drew ?_ | refine Up.setCell ?_ (by simp <;> omega) _))

set_option maxRecDepth 100000 in
set_option maxHeartbeats 8000000 in
theorem walk_fill (m : Me) (P Q : Addr) (c d : Nat) (s a l x y : Int) (t k mp size : Int) (w : World) (hm : Sits w m P Q c d) (hn : m.n ≤ 200) (hr : rgt s a l) (hl : l = m.n) (hp : (x = 0 ∧ y = 0) ∨ (0 ≤ x ∧ x ≤ y ∧ y ≤ a)) (hmp : 0 ≤ mp) (hh : rte t k mp = 0) (ht : t = 255) :
    Calls Try.prog 4 #[.agg #[.int .i64 m.n, .slice (some P) m.n c, .slice (some Q) m.n d, .int .i64 s, .int .i64 a, .int .i64 l, .int .i64 x, .int .i64 y], .agg #[.int .i64 t, .int .i64 k, .int .u64 mp], .int .i64 size] w (fun e w' => e = .returned (.bool true) ∧ Up w w') := by
  have hf := fun w => fewr_any m.n s a l x y (some P) (some Q) m.n m.n c d w
  rw [fewr_ok m s a l x y hm.1 hn hr hl hp] at hf
  have hf := Lib.hid hf
  have hrt := fun w => rright_any t k mp hmp w
  rw [hh] at hrt
  have hrt := Lib.hid hrt
  subst ht
  clear hm hn hr hl hp hmp hh
  go_enter Try.func4, Try.ntmps4
  go_wp2_with (fail)
  refine calls_at (fun V1 hV => ?_)
  have kv : Up w V1 := by rw [hV]; (repeat (first | with_reducible exact Up.refl _ | with_reducible refine Up.alloc ?_ _ | with_reducible refine Up.drew ?_ | refine Up.setCell ?_ (by simp <;> omega) _))
  have Xv : Blk V1 (w.heap.size) 31 #[.int .i64 m.n, .slice (some P) m.n c, .slice (some Q) m.n d, .int .i64 s, .int .i64 a, .int .i64 l, .int .i64 x, .int .i64 y] := by rw [hV]; (repeat (first | with_reducible exact Blk.new' _ (by simp) _ _ | with_reducible refine Blk.alloc ?_ _ | with_reducible refine Blk.drew ?_ | refine Blk.far ?_ (by simp <;> omega) _))
  have Hv : Blk V1 (w.heap.size + 1) 39 #[.int .i64 255, .int .i64 k, .int .u64 mp] := by rw [hV]; (repeat (first | with_reducible exact Blk.new' _ (by simp) _ _ | with_reducible refine Blk.alloc ?_ _ | with_reducible refine Blk.drew ?_ | refine Blk.far ?_ (by simp <;> omega) _))
  have Uv : Up w V1 := kv
  clear hV kv 
  refine (shown8 _).mono ?_
  rintro e w1 ⟨rfl, k1⟩
  have X1 := Xv.up k1
  have H1 := Hv.up k1
  have U1 := Uv.trans k1
  clear k1 Uv Xv Hv 
  have X1c := X1.cell
  have X1f := X1.frozen
  have X1l := X1.lt
  have H1c := H1.cell
  have H1f := H1.frozen
  have H1l := H1.lt
  go_wp2_with (fail)
  refine calls_at (fun V2 hV => ?_)
  have kv : Up w1 V2 := by rw [hV]; (repeat (first | with_reducible exact Up.refl _ | with_reducible refine Up.alloc ?_ _ | with_reducible refine Up.drew ?_ | refine Up.setCell ?_ (by simp <;> omega) _))
  have Xv := X1.up kv
  have Hv := H1.up kv
  have Uv : Up w V2 := U1.trans kv
  clear hV kv X1 X1c X1f X1l H1 H1c H1f H1l U1
  refine (hf.out _).mono ?_
  rintro e w2 ⟨rfl, k2⟩
  have X2 := Xv.up k2
  have H2 := Hv.up k2
  have U2 := Uv.trans k2
  clear k2 Uv Xv Hv 
  have X2c := X2.cell
  have X2f := X2.frozen
  have X2l := X2.lt
  have H2c := H2.cell
  have H2f := H2.frozen
  have H2l := H2.lt
  go_wp2_with (fail)
  refine calls_at (fun V3 hV => ?_)
  have kv : Up w2 V3 := by rw [hV]; (repeat (first | with_reducible exact Up.refl _ | with_reducible refine Up.alloc ?_ _ | with_reducible refine Up.drew ?_ | refine Up.setCell ?_ (by simp <;> omega) _))
  have Xv := X2.up kv
  have Hv := H2.up kv
  have Uv : Up w V3 := U2.trans kv
  clear hV kv X2 X2c X2f X2l H2 H2c H2f H2l U2
  refine (hrt.out _).mono ?_
  rintro e w3 ⟨rfl, k3⟩
  have X3 := Xv.up k3
  have H3 := Hv.up k3
  have U3 := Uv.trans k3
  clear k3 Uv Xv Hv 
  have X3c := X3.cell
  have X3f := X3.frozen
  have X3l := X3.lt
  have H3c := H3.cell
  have H3f := H3.frozen
  have H3l := H3.lt
  go_wp2
  go_ret
  refine ⟨rfl, ?_⟩
  (repeat (first | with_reducible exact U3 | with_reducible refine Up.alloc ?_ _ | with_reducible refine Up.drew ?_ | refine Up.setCell ?_ (by simp <;> omega) _))

set_option maxRecDepth 100000 in
set_option maxHeartbeats 8000000 in
theorem walk_fit (m : Me) (P Q : Addr) (c d : Nat) (s a l x y : Int) (t k mp size : Int) (w : World) (hm : Sits w m P Q c d) (hn : m.n ≤ 200) (hr : rgt s a l) (hl : l = m.n) (hp : (x = 0 ∧ y = 0) ∨ (0 ≤ x ∧ x ≤ y ∧ y ≤ a)) (hmp : 0 ≤ mp) (hh : rte t k mp = 0) (ht : t ≠ 255) (h0 : 0 ≤ x) (h1 : x ≤ y) (h2 : y ≤ a) (hfit : wdn t k ≤ y - x) :
    Calls Try.prog 4 #[.agg #[.int .i64 m.n, .slice (some P) m.n c, .slice (some Q) m.n d, .int .i64 s, .int .i64 a, .int .i64 l, .int .i64 x, .int .i64 y], .agg #[.int .i64 t, .int .i64 k, .int .u64 mp], .int .i64 size] w (fun e w' => e = .returned (.bool true) ∧ Up w w') := by
  have hf := fun w => fewr_any m.n s a l x y (some P) (some Q) m.n m.n c d w
  rw [fewr_ok m s a l x y hm.1 hn hr hl hp] at hf
  have hf := Lib.hid hf
  have hrt := fun w => rright_any t k mp hmp w
  rw [hh] at hrt
  have hrt := Lib.hid hrt
  have dt : (t == 255) = false := beq_eq_false_iff_ne.mpr ht
  have hwd := Lib.hid (fun w => rhwords_any t k mp hmp hh w)
  have hgx := fun (W : World) => gap_any m.n s a l x y (.slice (some P) m.n c) (.slice (some Q) m.n d) h0 (by have := hr.2; omega) (by omega) (by have := hr.2; omega) W
  have ha0 := hr.2.1
  have hal := hr.2.2.1
  have hl4 := hr.2.2.2
  have hwn := wdn_small hmp hh
  have hmk := Lib.hid (fun (W : World) (h : Up w W) => make_a m P Q c d s a l x y t k mp size W (hm.up h) hmp hh ht hr.1 h0 (by omega) hfit)
  generalize m.putm (adr s x) t k mp = K at hmk
  generalize adr s x = b at hmk
  have hgy := fun (P1 Q1 : Addr) (c1 d1 : Nat) (W : World) => gap_any K.n s a l (x + wdn t k) y (.slice (some P1) K.n c1) (.slice (some Q1) K.n d1) (by omega) (by omega) (by omega) (by omega) W
  have hxn : 0 ≤ x + wdn t k := by omega
  clear hwn
  generalize wdn t k = n at *
  have hq : (y - (x + n) == y - x - n) = true := beq_iff_eq.mpr (by omega)
  have hq2 : (y - (x + n) == IntKind.i64.wrap (y - x - n)) = true := beq_iff_eq.mpr (by rw [IntKind.wrap_i64]; omega)
  have dq : decide (n ≤ y - x) = true := decide_eq_true hfit
  generalize x + n = xn at *
  generalize y - x = q at *
  generalize y - xn = r at *
  have eb := eq_self s a l
  have hgx := Lib.hid hgx
  have hgy := Lib.hid hgy
  clear hm hn hr hl hp hmp hh ht hfit h0 h1 h2 hxn
  go_enter Try.func4, Try.ntmps4
  go_wp2_with (fail)
  refine calls_at (fun V1 hV => ?_)
  have kv : Up w V1 := by rw [hV]; (repeat (first | with_reducible exact Up.refl _ | with_reducible refine Up.alloc ?_ _ | with_reducible refine Up.drew ?_ | refine Up.setCell ?_ (by simp <;> omega) _))
  have Xv : Blk V1 (w.heap.size) 31 #[.int .i64 m.n, .slice (some P) m.n c, .slice (some Q) m.n d, .int .i64 s, .int .i64 a, .int .i64 l, .int .i64 x, .int .i64 y] := by rw [hV]; (repeat (first | with_reducible exact Blk.new' _ (by simp) _ _ | with_reducible refine Blk.alloc ?_ _ | with_reducible refine Blk.drew ?_ | refine Blk.far ?_ (by simp <;> omega) _))
  have Hv : Blk V1 (w.heap.size + 1) 39 #[.int .i64 t, .int .i64 k, .int .u64 mp] := by rw [hV]; (repeat (first | with_reducible exact Blk.new' _ (by simp) _ _ | with_reducible refine Blk.alloc ?_ _ | with_reducible refine Blk.drew ?_ | refine Blk.far ?_ (by simp <;> omega) _))
  have Uv : Up w V1 := kv
  clear hV kv 
  refine (shown8 _).mono ?_
  rintro e w1 ⟨rfl, k1⟩
  have X1 := Xv.up k1
  have H1 := Hv.up k1
  have U1 := Uv.trans k1
  clear k1 Uv Xv Hv 
  have X1c := X1.cell
  have X1f := X1.frozen
  have X1l := X1.lt
  have H1c := H1.cell
  have H1f := H1.frozen
  have H1l := H1.lt
  go_wp2_with (fail)
  refine calls_at (fun V2 hV => ?_)
  have kv : Up w1 V2 := by rw [hV]; (repeat (first | with_reducible exact Up.refl _ | with_reducible refine Up.alloc ?_ _ | with_reducible refine Up.drew ?_ | refine Up.setCell ?_ (by simp <;> omega) _))
  have Xv := X1.up kv
  have Hv := H1.up kv
  have Uv : Up w V2 := U1.trans kv
  clear hV kv X1 X1c X1f X1l H1 H1c H1f H1l U1
  refine (hf.out _).mono ?_
  rintro e w2 ⟨rfl, k2⟩
  have X2 := Xv.up k2
  have H2 := Hv.up k2
  have U2 := Uv.trans k2
  clear k2 Uv Xv Hv 
  have X2c := X2.cell
  have X2f := X2.frozen
  have X2l := X2.lt
  have H2c := H2.cell
  have H2f := H2.frozen
  have H2l := H2.lt
  go_wp2_with (fail)
  refine calls_at (fun V3 hV => ?_)
  have kv : Up w2 V3 := by rw [hV]; (repeat (first | with_reducible exact Up.refl _ | with_reducible refine Up.alloc ?_ _ | with_reducible refine Up.drew ?_ | refine Up.setCell ?_ (by simp <;> omega) _))
  have Xv := X2.up kv
  have Hv := H2.up kv
  have Uv : Up w V3 := U2.trans kv
  clear hV kv X2 X2c X2f X2l H2 H2c H2f H2l U2
  refine (hrt.out _).mono ?_
  rintro e w3 ⟨rfl, k3⟩
  have X3 := Xv.up k3
  have H3 := Hv.up k3
  have U3 := Uv.trans k3
  clear k3 Uv Xv Hv 
  have X3c := X3.cell
  have X3f := X3.frozen
  have X3l := X3.lt
  have H3c := H3.cell
  have H3f := H3.frozen
  have H3l := H3.lt
  go_wp2_with (fail)
  refine calls_at (fun V4 hV => ?_)
  have kv : Up w3 V4 := by rw [hV]; (repeat (first | with_reducible exact Up.refl _ | with_reducible refine Up.alloc ?_ _ | with_reducible refine Up.drew ?_ | refine Up.setCell ?_ (by simp <;> omega) _))
  have Xv := X3.up kv
  have Hv := H3.up kv
  have Uv : Up w V4 := U3.trans kv
  clear hV kv X3 X3c X3f X3l H3 H3c H3f H3l U3
  refine (hmk.out V4 Uv).mono ?_
  rintro e w4 ⟨P1, Q1, c1, d1, rfl, s14, k4⟩
  have X4 := Xv.up k4
  have H4 := Hv.up k4
  have U4 := Uv.trans k4
  clear k4 Uv Xv Hv 
  have X4c := X4.cell
  have X4f := X4.frozen
  have X4l := X4.lt
  have H4c := H4.cell
  have H4f := H4.frozen
  have H4l := H4.lt
  go_wp2_with (fail)
  refine calls_at (fun V5 hV => ?_)
  have kv : Up w4 V5 := by rw [hV]; (repeat (first | with_reducible exact Up.refl _ | with_reducible refine Up.alloc ?_ _ | with_reducible refine Up.drew ?_ | refine Up.setCell ?_ (by simp <;> omega) _))
  have Xv := X4.up kv
  have Hv := H4.up kv
  have Yv : Blk V5 (w4.heap.size) 31 #[.int .i64 K.n, .slice (some P1) K.n c1, .slice (some Q1) K.n d1, .int .i64 s, .int .i64 a, .int .i64 l, .int .i64 xn, .int .i64 y] := by rw [hV]; (repeat (first | with_reducible exact Blk.new' _ (by simp) _ _ | with_reducible refine Blk.alloc ?_ _ | with_reducible refine Blk.drew ?_ | refine Blk.far ?_ (by simp <;> omega) _))
  have Uv : Up w V5 := U4.trans kv
  have s1v := s14.up kv
  clear hV kv X4 X4c X4f X4l H4 H4c H4f H4l U4 s14
  refine (hwd.out _).mono ?_
  rintro e w5 ⟨rfl, k5⟩
  have X5 := Xv.up k5
  have H5 := Hv.up k5
  have Y5 := Yv.up k5
  have U5 := Uv.trans k5
  have s15 := s1v.up k5
  clear k5 Uv Xv Hv Yv s1v
  have X5c := X5.cell
  have X5f := X5.frozen
  have X5l := X5.lt
  have H5c := H5.cell
  have H5f := H5.frozen
  have H5l := H5.lt
  have Y5c := Y5.cell
  have Y5f := Y5.frozen
  have Y5l := Y5.lt
  go_wp2_with (fail)
  refine calls_at (fun V6 hV => ?_)
  have kv : Up w5 V6 := by rw [hV]; (repeat (first | with_reducible exact Up.refl _ | with_reducible refine Up.alloc ?_ _ | with_reducible refine Up.drew ?_ | refine Up.setCell ?_ (by simp <;> omega) _))
  have Xv := X5.up kv
  have Hv := H5.up kv
  have Yv := Y5.up kv
  have Uv : Up w V6 := U5.trans kv
  have s1v := s15.up kv
  clear hV kv X5 X5c X5f X5l H5 H5c H5f H5l Y5 Y5c Y5f Y5l U5 s15
  refine (hgx.out _).mono ?_
  rintro e w6 ⟨rfl, k6⟩
  have X6 := Xv.up k6
  have H6 := Hv.up k6
  have Y6 := Yv.up k6
  have U6 := Uv.trans k6
  have s16 := s1v.up k6
  clear k6 Uv Xv Hv Yv s1v
  have X6c := X6.cell
  have X6f := X6.frozen
  have X6l := X6.lt
  have H6c := H6.cell
  have H6f := H6.frozen
  have H6l := H6.lt
  have Y6c := Y6.cell
  have Y6f := Y6.frozen
  have Y6l := Y6.lt
  have X0 := X6.drew
  have Y0 := Y6.drew
  have UW := U6.drew
  have U0 := Up.refl w6.drew
  have hgyy := Lib.hid (hgy.out P1 Q1 c1 d1)
  clear hgy X6 X6c X6f X6l H6 H6c H6f H6l Y6 Y6c Y6f Y6l U6 s16
  go_wp2_with (fail)
  go_region_held3 (fun w' => (∀ i, w'.cell? ⟨w.heap.size, i, none⟩ = (#[.int .i64 m.n, .slice (some P) m.n c, .slice (some Q) m.n d, .int .i64 s, .int .i64 a, .int .i64 l, .int .i64 x, .int .i64 y] : Array Value)[i]?) ∧ (∀ i, w'.cell? ⟨(w4.heap.size), i, none⟩ = (#[.int .i64 K.n, .slice (some P1) K.n c1, .slice (some Q1) K.n d1, .int .i64 s, .int .i64 a, .int .i64 l, .int .i64 xn, .int .i64 y] : Array Value)[i]?))
    (exact ⟨fun i => (Blk.up X0 (by assumption)).cell i, fun i => (Blk.up Y0 (by assumption)).cell i⟩)
    (first
      | (go_at_call 9; ((with_reducible refine (hgyy.out _).mono ?_); rintro e wz ⟨rfl, hz⟩; have UZ := Up.trans (a := w6.drew) (by assumption) hz))
      | (go_at_call 9; ((with_reducible refine (hgx.out _).mono ?_); rintro e wz ⟨rfl, hz⟩; have UZ := Up.trans (a := w6.drew) (by assumption) hz)))
  all_goals
    go_wp2
    go_ret
    exact ⟨rfl, UW.trans UZ⟩

set_option maxRecDepth 100000 in
set_option maxHeartbeats 8000000 in
theorem walk_yes (m : Me) (P Q : Addr) (c d : Nat) (s a l x y : Int) (t k mp size : Int) (w : World) (hm : Sits w m P Q c d) (hn : m.n ≤ 200) (hr : rgt s a l) (hl : l = m.n) (hp : (x = 0 ∧ y = 0) ∨ (0 ≤ x ∧ x ≤ y ∧ y ≤ a)) (hmp : 0 ≤ mp) (hh : rte t k mp = 0) (ht : t ≠ 255) (h0 : 0 ≤ x) (h1 : x ≤ y) (h2 : y ≤ a) (hfit : y - x < wdn t k) (h3 : wdn t k ≤ l - a) :
    Calls Try.prog 4 #[.agg #[.int .i64 m.n, .slice (some P) m.n c, .slice (some Q) m.n d, .int .i64 s, .int .i64 a, .int .i64 l, .int .i64 x, .int .i64 y], .agg #[.int .i64 t, .int .i64 k, .int .u64 mp], .int .i64 size] w (fun e w' => e = .returned (.bool true) ∧ Up w w') := by
  have hf := fun w => fewr_any m.n s a l x y (some P) (some Q) m.n m.n c d w
  rw [fewr_ok m s a l x y hm.1 hn hr hl hp] at hf
  have hf := Lib.hid hf
  have hrt := fun w => rright_any t k mp hmp w
  rw [hh] at hrt
  have hrt := Lib.hid hrt
  have dt : (t == 255) = false := beq_eq_false_iff_ne.mpr ht
  have hwd := Lib.hid (fun w => rhwords_any t k mp hmp hh w)
  have hgx := fun (W : World) => gap_any m.n s a l x y (.slice (some P) m.n c) (.slice (some Q) m.n d) h0 (by have := hr.2; omega) (by omega) (by have := hr.2; omega) W
  have ha0 := hr.2.1
  have hal := hr.2.2.1
  have hl4 := hr.2.2.2
  have hwn := wdn_small hmp hh
  have hmk := Lib.hid (fun (W : World) (h : Up w W) => make_yes m P Q c d s a l x y t k mp size W (hm.up h) hmp hh ht hr hl h0 h1 h2 hfit h3)
  have hgx := Lib.hid hgx
  clear hwn
  generalize wdn t k = n at *
  have dq : decide (n ≤ y - x) = false := decide_eq_false (by omega)
  generalize y - x = q at *
  have d3 : decide (n ≤ l - a) = true := decide_eq_true h3
  have d4 : decide (l - a < n) = false := decide_eq_false (by omega)
  clear hm hn hr hl hp hmp hh ht hfit h0 h1 h2 h3
  go_enter Try.func4, Try.ntmps4
  go_wp2_with (fail)
  refine calls_at (fun V1 hV => ?_)
  have kv : Up w V1 := by rw [hV]; (repeat (first | with_reducible exact Up.refl _ | with_reducible refine Up.alloc ?_ _ | with_reducible refine Up.drew ?_ | refine Up.setCell ?_ (by simp <;> omega) _))
  have Xv : Blk V1 (w.heap.size) 31 #[.int .i64 m.n, .slice (some P) m.n c, .slice (some Q) m.n d, .int .i64 s, .int .i64 a, .int .i64 l, .int .i64 x, .int .i64 y] := by rw [hV]; (repeat (first | with_reducible exact Blk.new' _ (by simp) _ _ | with_reducible refine Blk.alloc ?_ _ | with_reducible refine Blk.drew ?_ | refine Blk.far ?_ (by simp <;> omega) _))
  have Hv : Blk V1 (w.heap.size + 1) 39 #[.int .i64 t, .int .i64 k, .int .u64 mp] := by rw [hV]; (repeat (first | with_reducible exact Blk.new' _ (by simp) _ _ | with_reducible refine Blk.alloc ?_ _ | with_reducible refine Blk.drew ?_ | refine Blk.far ?_ (by simp <;> omega) _))
  have Uv : Up w V1 := kv
  clear hV kv 
  refine (shown8 _).mono ?_
  rintro e w1 ⟨rfl, k1⟩
  have X1 := Xv.up k1
  have H1 := Hv.up k1
  have U1 := Uv.trans k1
  clear k1 Uv Xv Hv 
  have X1c := X1.cell
  have X1f := X1.frozen
  have X1l := X1.lt
  have H1c := H1.cell
  have H1f := H1.frozen
  have H1l := H1.lt
  go_wp2_with (fail)
  refine calls_at (fun V2 hV => ?_)
  have kv : Up w1 V2 := by rw [hV]; (repeat (first | with_reducible exact Up.refl _ | with_reducible refine Up.alloc ?_ _ | with_reducible refine Up.drew ?_ | refine Up.setCell ?_ (by simp <;> omega) _))
  have Xv := X1.up kv
  have Hv := H1.up kv
  have Uv : Up w V2 := U1.trans kv
  clear hV kv X1 X1c X1f X1l H1 H1c H1f H1l U1
  refine (hf.out _).mono ?_
  rintro e w2 ⟨rfl, k2⟩
  have X2 := Xv.up k2
  have H2 := Hv.up k2
  have U2 := Uv.trans k2
  clear k2 Uv Xv Hv 
  have X2c := X2.cell
  have X2f := X2.frozen
  have X2l := X2.lt
  have H2c := H2.cell
  have H2f := H2.frozen
  have H2l := H2.lt
  go_wp2_with (fail)
  refine calls_at (fun V3 hV => ?_)
  have kv : Up w2 V3 := by rw [hV]; (repeat (first | with_reducible exact Up.refl _ | with_reducible refine Up.alloc ?_ _ | with_reducible refine Up.drew ?_ | refine Up.setCell ?_ (by simp <;> omega) _))
  have Xv := X2.up kv
  have Hv := H2.up kv
  have Uv : Up w V3 := U2.trans kv
  clear hV kv X2 X2c X2f X2l H2 H2c H2f H2l U2
  refine (hrt.out _).mono ?_
  rintro e w3 ⟨rfl, k3⟩
  have X3 := Xv.up k3
  have H3 := Hv.up k3
  have U3 := Uv.trans k3
  clear k3 Uv Xv Hv 
  have X3c := X3.cell
  have X3f := X3.frozen
  have X3l := X3.lt
  have H3c := H3.cell
  have H3f := H3.frozen
  have H3l := H3.lt
  go_wp2_with (fail)
  refine calls_at (fun V4 hV => ?_)
  have kv : Up w3 V4 := by rw [hV]; (repeat (first | with_reducible exact Up.refl _ | with_reducible refine Up.alloc ?_ _ | with_reducible refine Up.drew ?_ | refine Up.setCell ?_ (by simp <;> omega) _))
  have Xv := X3.up kv
  have Hv := H3.up kv
  have Uv : Up w V4 := U3.trans kv
  clear hV kv X3 X3c X3f X3l H3 H3c H3f H3l U3
  refine (hmk.out V4 Uv).mono ?_
  rintro e w4 ⟨K, a1, x1, y1, b1, P1, Q1, c1, d1, rfl, sy, k4⟩
  have X4 := Xv.up k4
  have H4 := Hv.up k4
  have U4 := Uv.trans k4
  clear k4 Uv Xv Hv 
  have X4c := X4.cell
  have X4f := X4.frozen
  have X4l := X4.lt
  have H4c := H4.cell
  have H4f := H4.frozen
  have H4l := H4.lt
  clear sy
  go_wp2_with (fail)
  refine calls_at (fun V5 hV => ?_)
  have kv : Up w4 V5 := by rw [hV]; (repeat (first | with_reducible exact Up.refl _ | with_reducible refine Up.alloc ?_ _ | with_reducible refine Up.drew ?_ | refine Up.setCell ?_ (by simp <;> omega) _))
  have Xv := X4.up kv
  have Hv := H4.up kv
  have Uv : Up w V5 := U4.trans kv
  clear hV kv X4 X4c X4f X4l H4 H4c H4f H4l U4
  refine (hwd.out _).mono ?_
  rintro e w5 ⟨rfl, k5⟩
  have X5 := Xv.up k5
  have H5 := Hv.up k5
  have U5 := Uv.trans k5
  clear k5 Uv Xv Hv 
  have X5c := X5.cell
  have X5f := X5.frozen
  have X5l := X5.lt
  have H5c := H5.cell
  have H5f := H5.frozen
  have H5l := H5.lt
  go_wp2_with (fail)
  refine calls_at (fun V6 hV => ?_)
  have kv : Up w5 V6 := by rw [hV]; (repeat (first | with_reducible exact Up.refl _ | with_reducible refine Up.alloc ?_ _ | with_reducible refine Up.drew ?_ | refine Up.setCell ?_ (by simp <;> omega) _))
  have Xv := X5.up kv
  have Hv := H5.up kv
  have Uv : Up w V6 := U5.trans kv
  clear hV kv X5 X5c X5f X5l H5 H5c H5f H5l U5
  refine (hgx.out _).mono ?_
  rintro e w6 ⟨rfl, k6⟩
  have X6 := Xv.up k6
  have H6 := Hv.up k6
  have U6 := Uv.trans k6
  clear k6 Uv Xv Hv 
  have X6c := X6.cell
  have X6f := X6.frozen
  have X6l := X6.lt
  have H6c := H6.cell
  have H6f := H6.frozen
  have H6l := H6.lt
  by_cases z1 : size < 0
  · have y1 : decide (size < 0) = true := decide_eq_true z1
    go_wp2
    go_ret
    refine ⟨rfl, ?_⟩
    (repeat (first | with_reducible exact U6 | with_reducible refine Up.alloc ?_ _ | with_reducible refine Up.drew ?_ | refine Up.setCell ?_ (by simp <;> omega) _))
  have y1 : decide (size < 0) = false := decide_eq_false z1
  by_cases z2 : 4096 < size
  · have y2 : decide (4096 < size) = true := decide_eq_true z2
    clear z1 z2
    go_wp2
    go_ret
    refine ⟨rfl, ?_⟩
    (repeat (first | with_reducible exact U6 | with_reducible refine Up.alloc ?_ _ | with_reducible refine Up.drew ?_ | refine Up.setCell ?_ (by simp <;> omega) _))
  have y2 : decide (4096 < size) = false := decide_eq_false z2
  clear z1 z2
  go_wp2
  go_ret
  refine ⟨rfl, ?_⟩
  (repeat (first | with_reducible exact U6 | with_reducible refine Up.alloc ?_ _ | with_reducible refine Up.drew ?_ | refine Up.setCell ?_ (by simp <;> omega) _))

set_option maxRecDepth 100000 in
set_option maxHeartbeats 8000000 in
theorem walk_full (m : Me) (P Q : Addr) (c d : Nat) (s a l x y : Int) (t k mp size : Int) (w : World) (hm : Sits w m P Q c d) (hn : m.n ≤ 200) (hr : rgt s a l) (hl : l = m.n) (hp : (x = 0 ∧ y = 0) ∨ (0 ≤ x ∧ x ≤ y ∧ y ≤ a)) (hmp : 0 ≤ mp) (hh : rte t k mp = 0) (ht : t ≠ 255) (h0 : 0 ≤ x) (h1 : x ≤ y) (h2 : y ≤ a) (hfit : y - x < wdn t k) (h3 : l - a < wdn t k) :
    Calls Try.prog 4 #[.agg #[.int .i64 m.n, .slice (some P) m.n c, .slice (some Q) m.n d, .int .i64 s, .int .i64 a, .int .i64 l, .int .i64 x, .int .i64 y], .agg #[.int .i64 t, .int .i64 k, .int .u64 mp], .int .i64 size] w (fun e w' => e = .returned (.bool true) ∧ Up w w') := by
  have hf := fun w => fewr_any m.n s a l x y (some P) (some Q) m.n m.n c d w
  rw [fewr_ok m s a l x y hm.1 hn hr hl hp] at hf
  have hf := Lib.hid hf
  have hrt := fun w => rright_any t k mp hmp w
  rw [hh] at hrt
  have hrt := Lib.hid hrt
  have dt : (t == 255) = false := beq_eq_false_iff_ne.mpr ht
  have hwd := Lib.hid (fun w => rhwords_any t k mp hmp hh w)
  have hgx := fun (W : World) => gap_any m.n s a l x y (.slice (some P) m.n c) (.slice (some Q) m.n d) h0 (by have := hr.2; omega) (by omega) (by have := hr.2; omega) W
  have ha0 := hr.2.1
  have hal := hr.2.2.1
  have hl4 := hr.2.2.2
  have hwn := wdn_small hmp hh
  have hmk := Lib.hid (fun (W : World) (h : Up w W) => make_no m P Q c d s a l x y t k mp size W (hm.up h) hmp hh ht hr hl h0 h1 h2 hfit h3)
  have hgx := Lib.hid hgx
  clear hwn
  generalize wdn t k = n at *
  have dq : decide (n ≤ y - x) = false := decide_eq_false (by omega)
  generalize y - x = q at *
  have d3 : decide (n ≤ l - a) = false := decide_eq_false (by omega)
  have d4 : decide (l - a < n) = true := decide_eq_true h3
  clear hm hn hr hl hp hmp hh ht hfit h0 h1 h2 h3
  go_enter Try.func4, Try.ntmps4
  go_wp2_with (fail)
  refine calls_at (fun V1 hV => ?_)
  have kv : Up w V1 := by rw [hV]; (repeat (first | with_reducible exact Up.refl _ | with_reducible refine Up.alloc ?_ _ | with_reducible refine Up.drew ?_ | refine Up.setCell ?_ (by simp <;> omega) _))
  have Xv : Blk V1 (w.heap.size) 31 #[.int .i64 m.n, .slice (some P) m.n c, .slice (some Q) m.n d, .int .i64 s, .int .i64 a, .int .i64 l, .int .i64 x, .int .i64 y] := by rw [hV]; (repeat (first | with_reducible exact Blk.new' _ (by simp) _ _ | with_reducible refine Blk.alloc ?_ _ | with_reducible refine Blk.drew ?_ | refine Blk.far ?_ (by simp <;> omega) _))
  have Hv : Blk V1 (w.heap.size + 1) 39 #[.int .i64 t, .int .i64 k, .int .u64 mp] := by rw [hV]; (repeat (first | with_reducible exact Blk.new' _ (by simp) _ _ | with_reducible refine Blk.alloc ?_ _ | with_reducible refine Blk.drew ?_ | refine Blk.far ?_ (by simp <;> omega) _))
  have Uv : Up w V1 := kv
  clear hV kv 
  refine (shown8 _).mono ?_
  rintro e w1 ⟨rfl, k1⟩
  have X1 := Xv.up k1
  have H1 := Hv.up k1
  have U1 := Uv.trans k1
  clear k1 Uv Xv Hv 
  have X1c := X1.cell
  have X1f := X1.frozen
  have X1l := X1.lt
  have H1c := H1.cell
  have H1f := H1.frozen
  have H1l := H1.lt
  go_wp2_with (fail)
  refine calls_at (fun V2 hV => ?_)
  have kv : Up w1 V2 := by rw [hV]; (repeat (first | with_reducible exact Up.refl _ | with_reducible refine Up.alloc ?_ _ | with_reducible refine Up.drew ?_ | refine Up.setCell ?_ (by simp <;> omega) _))
  have Xv := X1.up kv
  have Hv := H1.up kv
  have Uv : Up w V2 := U1.trans kv
  clear hV kv X1 X1c X1f X1l H1 H1c H1f H1l U1
  refine (hf.out _).mono ?_
  rintro e w2 ⟨rfl, k2⟩
  have X2 := Xv.up k2
  have H2 := Hv.up k2
  have U2 := Uv.trans k2
  clear k2 Uv Xv Hv 
  have X2c := X2.cell
  have X2f := X2.frozen
  have X2l := X2.lt
  have H2c := H2.cell
  have H2f := H2.frozen
  have H2l := H2.lt
  go_wp2_with (fail)
  refine calls_at (fun V3 hV => ?_)
  have kv : Up w2 V3 := by rw [hV]; (repeat (first | with_reducible exact Up.refl _ | with_reducible refine Up.alloc ?_ _ | with_reducible refine Up.drew ?_ | refine Up.setCell ?_ (by simp <;> omega) _))
  have Xv := X2.up kv
  have Hv := H2.up kv
  have Uv : Up w V3 := U2.trans kv
  clear hV kv X2 X2c X2f X2l H2 H2c H2f H2l U2
  refine (hrt.out _).mono ?_
  rintro e w3 ⟨rfl, k3⟩
  have X3 := Xv.up k3
  have H3 := Hv.up k3
  have U3 := Uv.trans k3
  clear k3 Uv Xv Hv 
  have X3c := X3.cell
  have X3f := X3.frozen
  have X3l := X3.lt
  have H3c := H3.cell
  have H3f := H3.frozen
  have H3l := H3.lt
  go_wp2_with (fail)
  refine calls_at (fun V4 hV => ?_)
  have kv : Up w3 V4 := by rw [hV]; (repeat (first | with_reducible exact Up.refl _ | with_reducible refine Up.alloc ?_ _ | with_reducible refine Up.drew ?_ | refine Up.setCell ?_ (by simp <;> omega) _))
  have Xv := X3.up kv
  have Hv := H3.up kv
  have Uv : Up w V4 := U3.trans kv
  clear hV kv X3 X3c X3f X3l H3 H3c H3f H3l U3
  refine (hmk.out V4 Uv).mono ?_
  rintro e w4 ⟨K, a1, x1, y1, b1, P1, Q1, c1, d1, rfl, sy, k4⟩
  have X4 := Xv.up k4
  have H4 := Hv.up k4
  have U4 := Uv.trans k4
  clear k4 Uv Xv Hv 
  have X4c := X4.cell
  have X4f := X4.frozen
  have X4l := X4.lt
  have H4c := H4.cell
  have H4f := H4.frozen
  have H4l := H4.lt
  clear sy
  go_wp2_with (fail)
  refine calls_at (fun V5 hV => ?_)
  have kv : Up w4 V5 := by rw [hV]; (repeat (first | with_reducible exact Up.refl _ | with_reducible refine Up.alloc ?_ _ | with_reducible refine Up.drew ?_ | refine Up.setCell ?_ (by simp <;> omega) _))
  have Xv := X4.up kv
  have Hv := H4.up kv
  have Uv : Up w V5 := U4.trans kv
  clear hV kv X4 X4c X4f X4l H4 H4c H4f H4l U4
  refine (hwd.out _).mono ?_
  rintro e w5 ⟨rfl, k5⟩
  have X5 := Xv.up k5
  have H5 := Hv.up k5
  have U5 := Uv.trans k5
  clear k5 Uv Xv Hv 
  have X5c := X5.cell
  have X5f := X5.frozen
  have X5l := X5.lt
  have H5c := H5.cell
  have H5f := H5.frozen
  have H5l := H5.lt
  go_wp2_with (fail)
  refine calls_at (fun V6 hV => ?_)
  have kv : Up w5 V6 := by rw [hV]; (repeat (first | with_reducible exact Up.refl _ | with_reducible refine Up.alloc ?_ _ | with_reducible refine Up.drew ?_ | refine Up.setCell ?_ (by simp <;> omega) _))
  have Xv := X5.up kv
  have Hv := H5.up kv
  have Uv : Up w V6 := U5.trans kv
  clear hV kv X5 X5c X5f X5l H5 H5c H5f H5l U5
  refine (hgx.out _).mono ?_
  rintro e w6 ⟨rfl, k6⟩
  have X6 := Xv.up k6
  have H6 := Hv.up k6
  have U6 := Uv.trans k6
  clear k6 Uv Xv Hv 
  have X6c := X6.cell
  have X6f := X6.frozen
  have X6l := X6.lt
  have H6c := H6.cell
  have H6f := H6.frozen
  have H6l := H6.lt
  go_wp2
  go_ret
  refine ⟨rfl, ?_⟩
  (repeat (first | with_reducible exact U6 | with_reducible refine Up.alloc ?_ _ | with_reducible refine Up.drew ?_ | refine Up.setCell ?_ (by simp <;> omega) _))

theorem walk (N : Int) (A0 A1 : Option Addr) (n0 n1 c0 c1 : Nat) (s a l x y : Int) (xs ys : List Int) (t k mp size : Int) (w : World) (hx : SlOk w A0 n0 c0 xs) (hy : SlOk w A1 n1 c1 ys) (hmp : U64 mp) :
    Calls Try.prog 4 #[.agg #[.int .i64 N, .slice A0 n0 c0, .slice A1 n1 c1, .int .i64 s, .int .i64 a, .int .i64 l, .int .i64 x, .int .i64 y], .agg #[.int .i64 t, .int .i64 k, .int .u64 mp], .int .i64 size] w (fun e w' => e = .returned (.bool true) ∧ Up w w') := by
  cases hfew : fewr N n0 n1 s a l x y
  · exact walk_no N A0 A1 n0 n1 c0 c1 s a l x y t k mp size hfew w
  · obtain ⟨rfl, rfl, h16, h200, hr, hl, hp⟩ := fewr_is hfew
    obtain ⟨P, Q, rfl, rfl, hm⟩ := sits_of hx hy h16 (by omega)
    have ha := hr.2.1
    by_cases hh : rte t k mp = 0
    · by_cases ht : t = 255
      · exact walk_fill ⟨n0, xs, ys⟩ P Q c0 c1 s a l x y t k mp size w hm h200 hr hl hp hmp.1 hh ht
      · by_cases hf : wdn t k ≤ y - x
        · exact walk_fit ⟨n0, xs, ys⟩ P Q c0 c1 s a l x y t k mp size w hm h200 hr hl hp hmp.1 hh ht (by omega) (by omega) (by omega) hf
        · by_cases h3 : wdn t k ≤ l - a
          · exact walk_yes ⟨n0, xs, ys⟩ P Q c0 c1 s a l x y t k mp size w hm h200 hr hl hp hmp.1 hh ht (by omega) (by omega) (by omega) (by omega) h3
          · exact walk_full ⟨n0, xs, ys⟩ P Q c0 c1 s a l x y t k mp size w hm h200 hr hl hp hmp.1 hh ht (by omega) (by omega) (by omega) (by omega) (by omega)
    · exact walk_bad ⟨n0, xs, ys⟩ P Q c0 c1 s a l x y t k mp size w hm h200 hr hl hp hmp.1 hh

theorem own : ownKnob Try.prog.godebug = none := by kernel_rfl
set_option maxRecDepth 100000 in
theorem lifted (os : Os) (started : os.Started) (H : Type) (enc : TypeId × Value → H) :
    ReturnsInHanded {} Try.checked os 4 .any (Rows.bufRefusesSpec.pre6 enc Try.prog Try.f4 Rows.bufRefusesRow.domain false) (Rows.bufRefusesSpec.post enc Try.prog Try.f4 false true false false) := by
  refine returnsInHanded_of_change (C := Try.checked) own started (by kernel_rfl) Try.func4
    (ChangeSpec.witness6 (enc := enc) (C := Try.checked) false ⟨#[], #[.agg #[.int .i64 0, .slice none 0 0, .slice none 0 0, .int .i64 0, .int .i64 0, .int .i64 0, .int .i64 0, .int .i64 0], .agg #[.int .i64 0, .int .i64 0, .int .u64 0], .int .i64 0], []⟩ 8 (by kernel_rfl) (by kernel_rfl) (by kernel_rfl) (by kernel_rfl)) ?_
  intro W base args ds gs before hval0 hW hcnd _
  have hval : ∀ (j : Nat) t v, Try.f4.params[j]? = some t → args[j]? = some v → Value.okWide Try.prog W .any base t v := hval0
  have hW' := hW
  obtain ⟨p, q, hA0, hV, rfl, hfz, hnd⟩ := hW
  have hA : DataW.TrodAll enc Try.prog W 0 (fun _ => true) true Try.f4.params.toList args.toList ds p := hA0
  rw [Try.params4] at hA hval
  obtain ⟨v0, vs0, d0, ds0, p0, q0, hargs, rfl, rfl, h0, r0⟩ := trodAll_cons hA
  obtain ⟨v1, vs1, d1, ds1, p1, q1, rfl, rfl, rfl, h1, r1⟩ := trodAll_cons r0
  obtain ⟨v2, vs2, d2, ds2, p2, q2, rfl, rfl, rfl, h2, r2⟩ := trodAll_cons r1
  obtain ⟨rfl, rfl, rfl⟩ := trodAll_nil r2
  obtain rfl : args = #[v0, v1, v2] := by cases args; simp_all
  obtain ⟨rfl, rfl⟩ := trodVars_none hV
  have h0k := h0
  obtain ⟨N, A0, A1, n0, n1, c0, c1, xs, ys, s, a, l, x, y, rfl, hN, hx, hy, hs, ha, hl, hxx, hyy⟩ := room_open (hval 0 31 v0 rfl rfl) h0
  have h1k := h1
  obtain ⟨t, k, mp, rfl, ht, hk, hmp⟩ := head_open (hval 1 39 v1 rfl rfl) h1
  obtain ⟨a2, rfl, rfl, rfl, w2⟩ := open_int Try.underlying3 (hval 2 3 v2 rfl rfl) h2
  clear hA0 hval0
  simp only [List.append_nil, List.nil_append] at hW'
  refine (walk N A0 A1 n0 n1 c0 c1 s a l x y xs ys t k mp a2 W hx hy hmp).mono fun e W' ⟨he, hg⟩ => ?_
  subst he
  exact ⟨_, rfl, post_below (pa := p0 ++ p1) (pv := []) hW' (fun _ _ _ => (trodAll_cons_mk (shut_bool Try.underlying4 _) trodAll_mk0))
    (fun sp hsp => by
      have t := (trodAll_cons_mk (trod_keeps (sp := sp) (by kernel_rfl) (of_decide_eq_true (by kernel_rfl)) h0k hg (fun x hx => hW'.lt x (by simp [hx])) (fun x hx => hsp x (by simp [hx]))) (trodAll_cons_mk (trod_keeps (sp := sp) (by kernel_rfl) (of_decide_eq_true (by kernel_rfl)) h1k hg (fun x hx => hW'.lt x (by simp [hx])) (fun x hx => hsp x (by simp [hx]))) (trodAll_cons_mk (shut_int Try.underlying3 w2) trodAll_mk0)))
      simp only [List.append_nil, List.nil_append] at t
      exact t) (fun _ _ => rfl) (by simp)
    hg (ok_one (by kernel_rfl) rfl (okWide_bool_mk Try.underlying4 _))⟩

set_option maxRecDepth 100000 in
theorem over : Rows.bufRefusesRow.holds Try.pinned (OpenSpec.ofChange Rows.bufRefusesSpec) :=
  OpenClaim.holds_of_wide 4 Try.f4 rfl rfl rfl rfl rfl rfl rfl ⟨rfl, rfl, rfl, rfl, rfl⟩ rfl rfl rfl rfl rfl (by kernel_rfl) Try.func4 (by kernel_rfl)
    (of_decide_eq_true (by kernel_rfl)) (by unfold Func.isWrapper; first | (rw [if_pos (by decide +kernel)]; kernel_rfl) | (rw [if_neg (by decide +kernel)]; exact ⟨rfl, rfl⟩))
    (fun os started H enc _ => lifted os started H enc)

theorem proved : Rows.BufRefusesSaid :=
  over
#print axioms proved
end Go.Proofs.Ytjolikgficknnaa.LBufRefuses
