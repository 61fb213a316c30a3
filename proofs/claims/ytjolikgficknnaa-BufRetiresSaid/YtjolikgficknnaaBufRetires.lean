/- The statement BufRetires is proved for every input, from contracts of the functions that it calls; no condition is added. -/
import Derived.Test.YtjolikgficknnaaBf10
namespace Go.Proofs.Ytjolikgficknnaa.LBufRetires
open Go.Joins Go.ChangeShapes Go.WideShapes Go.ChangeAt Go.RowKit Go.Deep
set_option linter.unusedVariables false
set_option linter.unusedSimpArgs false

theorem fewr_ok (m : Me) (s a l x y : Int) (h : m.ok) (hn : m.n ≤ 200) (hr : rgt s a l) (hl : l = m.n) (hp : (x = 0 ∧ y = 0) ∨ (0 ≤ x ∧ x ≤ y ∧ y ≤ a)) : fewr m.n m.n m.n s a l x y = true := by
  have h16 := h.1
  have e1 : rt m.n m.n m.n = true := decide_eq_true ⟨by omega, by omega, rfl, rfl⟩
  have e2 : rgb s a l = true := decide_eq_true hr
  have e3 : decide (l = m.n) = true := decide_eq_true hl
  have e4 : pcb a x y = true := decide_eq_true hp
  have e5 : decide ((m.n : Int) ≤ 200) = true := decide_eq_true (by omega)
  unfold fewr rob
  rw [e1, e2, e3, e4, e5]
  rfl
set_option maxRecDepth 100000 in
set_option maxHeartbeats 8000000 in
theorem walk_no (N : Int) (A0 A1 : Option Addr) (n0 n1 c0 c1 : Nat) (s a l x y : Int) (hfew : fewr N n0 n1 s a l x y = false) (w : World) :
    Calls Try.prog 3 #[.agg #[.int .i64 N, .slice A0 n0 c0, .slice A1 n1 c1, .int .i64 s, .int .i64 a, .int .i64 l, .int .i64 x, .int .i64 y]] w (fun e w' => e = .returned (.bool true) ∧ Up w w') := by
  have hf := fun w => fewr_any N s a l x y A0 A1 n0 n1 c0 c1 w
  rw [hfew] at hf
  have hf := Lib.hid hf
  go_enter Try.func3, Try.ntmps3
  go_wp2_with (fail)
  refine calls_at (fun V1 hV => ?_)
  have kv : Up w V1 := by rw [hV]; (repeat (first | with_reducible exact Up.refl _ | with_reducible refine Up.alloc ?_ _ | with_reducible refine Up.drew ?_ | refine Up.setCell ?_ (by simp <;> omega) _))
  have Xv : Blk V1 (w.heap.size) 31 #[.int .i64 N, .slice A0 n0 c0, .slice A1 n1 c1, .int .i64 s, .int .i64 a, .int .i64 l, .int .i64 x, .int .i64 y] := by rw [hV]; (repeat (first | with_reducible exact Blk.new' _ (by simp) _ _ | with_reducible refine Blk.alloc ?_ _ | with_reducible refine Blk.drew ?_ | refine Blk.far ?_ (by simp <;> omega) _))
  have Uv : Up w V1 := kv
  clear hV kv 
  refine (shown8 _).mono ?_
  rintro e w1 ⟨rfl, k1⟩
  have X1 := Xv.up k1
  have U1 := Uv.trans k1
  clear k1 Uv Xv 
  have X1c := X1.cell
  have X1f := X1.frozen
  have X1l := X1.lt
  go_wp2_with (fail)
  refine calls_at (fun V2 hV => ?_)
  have kv : Up w1 V2 := by rw [hV]; (repeat (first | with_reducible exact Up.refl _ | with_reducible refine Up.alloc ?_ _ | with_reducible refine Up.drew ?_ | refine Up.setCell ?_ (by simp <;> omega) _))
  have Xv := X1.up kv
  have Uv : Up w V2 := U1.trans kv
  clear hV kv X1 X1c X1f X1l U1
  refine (hf.out _).mono ?_
  rintro e w2 ⟨rfl, k2⟩
  have X2 := Xv.up k2
  have U2 := Uv.trans k2
  clear k2 Uv Xv 
  have X2c := X2.cell
  have X2f := X2.frozen
  have X2l := X2.lt
  go_wp2
  go_ret
  refine ⟨rfl, ?_⟩
  (repeat (first | with_reducible exact U2 | with_reducible refine Up.alloc ?_ _ | with_reducible refine Up.drew ?_ | refine Up.setCell ?_ (by simp <;> omega) _))

set_option maxRecDepth 100000 in
set_option maxHeartbeats 8000000 in
theorem walk_gap (m : Me) (P Q : Addr) (c d : Nat) (s a l x y : Int) (w : World) (hm : Sits w m P Q c d) (hn : m.n ≤ 200) (hr : rgt s a l) (hl : l = m.n) (h0 : 0 ≤ x) (h1 : x < y) (h2 : y ≤ a) :
    Calls Try.prog 3 #[.agg #[.int .i64 m.n, .slice (some P) m.n c, .slice (some Q) m.n d, .int .i64 s, .int .i64 a, .int .i64 l, .int .i64 x, .int .i64 y]] w (fun e w' => e = .returned (.bool true) ∧ Up w w') := by
  have hp : (x = 0 ∧ y = 0) ∨ (0 ≤ x ∧ x ≤ y ∧ y ≤ a) := .inr ⟨h0, by omega, h2⟩
  have hf := fun w => fewr_any m.n s a l x y (some P) (some Q) m.n m.n c d w
  rw [fewr_ok m s a l x y hm.1 hn hr hl hp] at hf
  have hf := Lib.hid hf
  have hst := hr.1
  have hra := hr.2
  have hm16 := hm.1.2.1
  have hret := Lib.hid (fun (W : World) (h : Up w W) => retire_any m P Q c d s a l x y W (hm.up h) hst h0 (by omega) (by omega))
  have hgp := fun (W : World) => gap_any m.n s a l x y (.slice (some P) m.n c) (.slice (some Q) m.n d) h0 (by omega) (by omega) (by omega) W
  have hq : decide (0 < y - x) = true := decide_eq_true (by omega)
  generalize y - x = q at hgp hq
  have hgp := Lib.hid hgp
  have hK : (m.rtm s x y).n = m.n := rtm_n m s x y
  generalize m.rtm s x y = K at hret hK
  have hrob : rob K.n K.n K.n s a l 0 0 = true := by
    have h16 := hm.1.1
    have e1 : rt K.n K.n K.n = true := decide_eq_true ⟨by omega, by omega, rfl, rfl⟩
    have e2 : rgb s a l = true := decide_eq_true hr
    have e3 : decide (l = K.n) = true := decide_eq_true (by omega)
    have e4 : pcb a 0 0 = true := decide_eq_true (.inl ⟨rfl, rfl⟩)
    unfold rob
    rw [e1, e2, e3, e4]
    rfl
  have hrr := Lib.hid (show ∀ (P Q : Addr) (c d : Nat) (w : World), Calls Try.prog 10 #[rov K.n (.slice (some P) K.n c) (.slice (some Q) K.n d) s a l 0 0] w fun e w' => e = .returned (.bool true) ∧ Up w w' from fun P Q c d w => by have h := roright_any K.n s a l 0 0 (some P) (some Q) K.n K.n c d w; rwa [hrob] at h)
  have hgz := Lib.hid (show ∀ (P Q : Addr) (c d : Nat) (w : World), Calls Try.prog 9 #[rov K.n (.slice (some P) K.n c) (.slice (some Q) K.n d) s a l 0 0] w fun e w' => e = .returned (.int .i64 0) ∧ Up w w' from fun P Q c d w => gap_any K.n s a l 0 0 (.slice (some P) K.n c) (.slice (some Q) K.n d) (by decide) (by decide) (by decide) (by decide) w)
  have et := fun w => eq_buf 0 0 0 0 w
  rw [tsame_self] at et
  have eb := eq_self s a l
  clear hrob hst hra hm16 hn hr hl hp h0 h1 h2 hm hK
  go_enter Try.func3, Try.ntmps3
  go_wp2_with (fail)
  refine calls_at (fun V1 hV => ?_)
  have kv : Up w V1 := by rw [hV]; (repeat (first | with_reducible exact Up.refl _ | with_reducible refine Up.alloc ?_ _ | with_reducible refine Up.drew ?_ | refine Up.setCell ?_ (by simp <;> omega) _))
  have Xv : Blk V1 (w.heap.size) 31 #[.int .i64 m.n, .slice (some P) m.n c, .slice (some Q) m.n d, .int .i64 s, .int .i64 a, .int .i64 l, .int .i64 x, .int .i64 y] := by rw [hV]; (repeat (first | with_reducible exact Blk.new' _ (by simp) _ _ | with_reducible refine Blk.alloc ?_ _ | with_reducible refine Blk.drew ?_ | refine Blk.far ?_ (by simp <;> omega) _))
  have Uv : Up w V1 := kv
  clear hV kv 
  refine (shown8 _).mono ?_
  rintro e w1 ⟨rfl, k1⟩
  have X1 := Xv.up k1
  have U1 := Uv.trans k1
  clear k1 Uv Xv 
  have X1c := X1.cell
  have X1f := X1.frozen
  have X1l := X1.lt
  go_wp2_with (fail)
  refine calls_at (fun V2 hV => ?_)
  have kv : Up w1 V2 := by rw [hV]; (repeat (first | with_reducible exact Up.refl _ | with_reducible refine Up.alloc ?_ _ | with_reducible refine Up.drew ?_ | refine Up.setCell ?_ (by simp <;> omega) _))
  have Xv := X1.up kv
  have Uv : Up w V2 := U1.trans kv
  clear hV kv X1 X1c X1f X1l U1
  refine (hf.out _).mono ?_
  rintro e w2 ⟨rfl, k2⟩
  have X2 := Xv.up k2
  have U2 := Uv.trans k2
  clear k2 Uv Xv 
  have X2c := X2.cell
  have X2f := X2.frozen
  have X2l := X2.lt
  go_wp2_with (fail)
  refine calls_at (fun V3 hV => ?_)
  have kv : Up w2 V3 := by rw [hV]; (repeat (first | with_reducible exact Up.refl _ | with_reducible refine Up.alloc ?_ _ | with_reducible refine Up.drew ?_ | refine Up.setCell ?_ (by simp <;> omega) _))
  have Xv := X2.up kv
  have Uv : Up w V3 := U2.trans kv
  clear hV kv X2 X2c X2f X2l U2
  refine (hret.out V3 Uv).mono ?_
  rintro e w3 ⟨P1, Q1, c1, d1, rfl, s13, k3⟩
  have X3 := Xv.up k3
  have U3 := Uv.trans k3
  clear k3 Uv Xv 
  have X3c := X3.cell
  have X3f := X3.frozen
  have X3l := X3.lt
  go_wp2_with (fail)
  refine calls_at (fun V4 hV => ?_)
  have kv : Up w3 V4 := by rw [hV]; (repeat (first | with_reducible exact Up.refl _ | with_reducible refine Up.alloc ?_ _ | with_reducible refine Up.drew ?_ | refine Up.setCell ?_ (by simp <;> omega) _))
  have Xv := X3.up kv
  have Yv : Blk V4 (w3.heap.size) 31 #[.int .i64 K.n, .slice (some P1) K.n c1, .slice (some Q1) K.n d1, .int .i64 s, .int .i64 a, .int .i64 l, .int .i64 0, .int .i64 0] := by rw [hV]; (repeat (first | with_reducible exact Blk.new' _ (by simp) _ _ | with_reducible refine Blk.alloc ?_ _ | with_reducible refine Blk.drew ?_ | refine Blk.far ?_ (by simp <;> omega) _))
  have Uv : Up w V4 := U3.trans kv
  have s1v := s13.up kv
  clear hV kv X3 X3c X3f X3l U3 s13
  refine (retire_none K.n s a l 0 (some P1) (some Q1) K.n K.n c1 d1 (by decide) (by decide) _).mono ?_
  rintro e w4 ⟨rfl, k4⟩
  have X4 := Xv.up k4
  have Y4 := Yv.up k4
  have U4 := Uv.trans k4
  have s14 := s1v.up k4
  clear k4 Uv Xv Yv s1v
  have X4c := X4.cell
  have X4f := X4.frozen
  have X4l := X4.lt
  have Y4c := Y4.cell
  have Y4f := Y4.frozen
  have Y4l := Y4.lt
  go_wp2_with (fail)
  refine calls_at (fun V5 hV => ?_)
  have kv : Up w4 V5 := by rw [hV]; (repeat (first | with_reducible exact Up.refl _ | with_reducible refine Up.alloc ?_ _ | with_reducible refine Up.drew ?_ | refine Up.setCell ?_ (by simp <;> omega) _))
  have Xv := X4.up kv
  have Yv := Y4.up kv
  have Zv : Blk V5 (w4.heap.size) 31 #[.int .i64 K.n, .slice (some P1) K.n c1, .slice (some Q1) K.n d1, .int .i64 s, .int .i64 a, .int .i64 l, .int .i64 0, .int .i64 0] := by rw [hV]; (repeat (first | with_reducible exact Blk.new' _ (by simp) _ _ | with_reducible refine Blk.alloc ?_ _ | with_reducible refine Blk.drew ?_ | refine Blk.far ?_ (by simp <;> omega) _))
  have Nv : Blk V5 (w4.heap.size + 1) 31 #[.int .i64 m.n, .slice (some P) m.n c, .slice (some Q) m.n d, .int .i64 s, .int .i64 a, .int .i64 l, .int .i64 0, .int .i64 0] := by rw [hV]; (repeat (first | with_reducible exact Blk.new' _ (by simp) _ _ | with_reducible refine Blk.alloc ?_ _ | with_reducible refine Blk.drew ?_ | refine Blk.far ?_ (by simp <;> omega) _))
  have Uv : Up w V5 := U4.trans kv
  have s1v := s14.up kv
  clear hV kv X4 X4c X4f X4l Y4 Y4c Y4f Y4l U4 s14
  refine (rosame_self K P1 Q1 P1 Q1 c1 d1 c1 d1 s a l 0 0 V5 s1v s1v).mono ?_
  rintro e w5 ⟨rfl, k5⟩
  have X5 := Xv.up k5
  have Y5 := Yv.up k5
  have Z5 := Zv.up k5
  have N5 := Nv.up k5
  have U5 := Uv.trans k5
  have s15 := s1v.up k5
  clear k5 Uv Xv Yv Zv Nv s1v
  have X5c := X5.cell
  have X5f := X5.frozen
  have X5l := X5.lt
  have Y5c := Y5.cell
  have Y5f := Y5.frozen
  have Y5l := Y5.lt
  have Z5c := Z5.cell
  have Z5f := Z5.frozen
  have Z5l := Z5.lt
  have N5c := N5.cell
  have N5f := N5.frozen
  have N5l := N5.lt
  go_wp2_with (fail)
  refine calls_at (fun V6 hV => ?_)
  have kv : Up w5 V6 := by rw [hV]; (repeat (first | with_reducible exact Up.refl _ | with_reducible refine Up.alloc ?_ _ | with_reducible refine Up.drew ?_ | refine Up.setCell ?_ (by simp <;> omega) _))
  have Xv := X5.up kv
  have Yv := Y5.up kv
  have Zv := Z5.up kv
  have Nv := N5.up kv
  have Uv : Up w V6 := U5.trans kv
  have s1v := s15.up kv
  clear hV kv X5 X5c X5f X5l Y5 Y5c Y5f Y5l Z5 Z5c Z5f Z5l N5 N5c N5f N5l U5 s15
  refine (hgp.out _).mono ?_
  rintro e w6 ⟨rfl, k6⟩
  have X6 := Xv.up k6
  have Y6 := Yv.up k6
  have Z6 := Zv.up k6
  have N6 := Nv.up k6
  have U6 := Uv.trans k6
  have s16 := s1v.up k6
  clear k6 Uv Xv Yv Zv Nv s1v
  have X6c := X6.cell
  have X6f := X6.frozen
  have X6l := X6.lt
  have Y6c := Y6.cell
  have Y6f := Y6.frozen
  have Y6l := Y6.lt
  have Z6c := Z6.cell
  have Z6f := Z6.frozen
  have Z6l := Z6.lt
  have N6c := N6.cell
  have N6f := N6.frozen
  have N6l := N6.lt
  go_wp2_with (fail)
  refine calls_at (fun V7 hV => ?_)
  have kv : Up w6 V7 := by rw [hV]; (repeat (first | with_reducible exact Up.refl _ | with_reducible refine Up.alloc ?_ _ | with_reducible refine Up.drew ?_ | refine Up.setCell ?_ (by simp <;> omega) _))
  have Xv := X6.up kv
  have Yv := Y6.up kv
  have Zv := Z6.up kv
  have Nv := N6.up kv
  have Uv : Up w V7 := U6.trans kv
  have s1v := s16.up kv
  clear hV kv X6 X6c X6f X6l Y6 Y6c Y6f Y6l Z6 Z6c Z6f Z6l N6 N6c N6f N6l U6 s16
  refine (hgz.out _ _ _ _ _).mono ?_
  rintro e w7 ⟨rfl, k7⟩
  have X7 := Xv.up k7
  have Y7 := Yv.up k7
  have Z7 := Zv.up k7
  have N7 := Nv.up k7
  have U7 := Uv.trans k7
  have s17 := s1v.up k7
  clear k7 Uv Xv Yv Zv Nv s1v
  have X7c := X7.cell
  have X7f := X7.frozen
  have X7l := X7.lt
  have Y7c := Y7.cell
  have Y7f := Y7.frozen
  have Y7l := Y7.lt
  have Z7c := Z7.cell
  have Z7f := Z7.frozen
  have Z7l := Z7.lt
  have N7c := N7.cell
  have N7f := N7.frozen
  have N7l := N7.lt
  go_wp2_with (fail)
  refine calls_at (fun V8 hV => ?_)
  have kv : Up w7 V8 := by rw [hV]; (repeat (first | with_reducible exact Up.refl _ | with_reducible refine Up.alloc ?_ _ | with_reducible refine Up.drew ?_ | refine Up.setCell ?_ (by simp <;> omega) _))
  have Xv := X7.up kv
  have Yv := Y7.up kv
  have Zv := Z7.up kv
  have Nv := N7.up kv
  have Uv : Up w V8 := U7.trans kv
  have s1v := s17.up kv
  clear hV kv X7 X7c X7f X7l Y7 Y7c Y7f Y7l Z7 Z7c Z7f Z7l N7 N7c N7f N7l U7 s17
  refine (hrr.out _ _ _ _ _).mono ?_
  rintro e w8 ⟨rfl, k8⟩
  have X8 := Xv.up k8
  have Y8 := Yv.up k8
  have Z8 := Zv.up k8
  have N8 := Nv.up k8
  have U8 := Uv.trans k8
  have s18 := s1v.up k8
  clear k8 Uv Xv Yv Zv Nv s1v
  have X8c := X8.cell
  have X8f := X8.frozen
  have X8l := X8.lt
  have Y8c := Y8.cell
  have Y8f := Y8.frozen
  have Y8l := Y8.lt
  have Z8c := Z8.cell
  have Z8f := Z8.frozen
  have Z8l := Z8.lt
  have N8c := N8.cell
  have N8f := N8.frozen
  have N8l := N8.lt
  go_wp2
  go_ret
  refine ⟨rfl, ?_⟩
  (repeat (first | with_reducible exact U8 | with_reducible refine Up.alloc ?_ _ | with_reducible refine Up.drew ?_ | refine Up.setCell ?_ (by simp <;> omega) _))

set_option maxRecDepth 100000 in
set_option maxHeartbeats 8000000 in
theorem walk_eq (m : Me) (P Q : Addr) (c d : Nat) (s a l x y : Int) (w : World) (hm : Sits w m P Q c d) (hn : m.n ≤ 200) (hr : rgt s a l) (hl : l = m.n) (h0 : 0 ≤ x) (h1 : x = y) (h2 : y ≤ a) :
    Calls Try.prog 3 #[.agg #[.int .i64 m.n, .slice (some P) m.n c, .slice (some Q) m.n d, .int .i64 s, .int .i64 a, .int .i64 l, .int .i64 x, .int .i64 y]] w (fun e w' => e = .returned (.bool true) ∧ Up w w') := by
  have hp : (x = 0 ∧ y = 0) ∨ (0 ≤ x ∧ x ≤ y ∧ y ≤ a) := .inr ⟨h0, by omega, h2⟩
  have hf := fun w => fewr_any m.n s a l x y (some P) (some Q) m.n m.n c d w
  rw [fewr_ok m s a l x y hm.1 hn hr hl hp] at hf
  have hf := Lib.hid hf
  have hst := hr.1
  have hra := hr.2
  have hm16 := hm.1.2.1
  have hret := Lib.hid (fun (W : World) (h : Up w W) => retire_any m P Q c d s a l x y W (hm.up h) hst h0 (by omega) (by omega))
  have hgp := fun (W : World) => gap_any m.n s a l x y (.slice (some P) m.n c) (.slice (some Q) m.n d) h0 (by omega) (by omega) (by omega) W
  have hz : y - x = 0 := by omega
  rw [hz] at hgp
  clear hz
  have hgp := Lib.hid hgp
  have hK : (m.rtm s x y) = m := by unfold Me.rtm; rw [if_neg (by omega)]
  rw [hK] at hret
  have hrob : rob m.n m.n m.n s a l 0 0 = true := by
    have h16 := hm.1.1
    have e1 : rt m.n m.n m.n = true := decide_eq_true ⟨by omega, by omega, rfl, rfl⟩
    have e2 : rgb s a l = true := decide_eq_true hr
    have e3 : decide (l = m.n) = true := decide_eq_true (by omega)
    have e4 : pcb a 0 0 = true := decide_eq_true (.inl ⟨rfl, rfl⟩)
    unfold rob
    rw [e1, e2, e3, e4]
    rfl
  have hrr := Lib.hid (show ∀ (P Q : Addr) (c d : Nat) (w : World), Calls Try.prog 10 #[rov m.n (.slice (some P) m.n c) (.slice (some Q) m.n d) s a l 0 0] w fun e w' => e = .returned (.bool true) ∧ Up w w' from fun P Q c d w => by have h := roright_any m.n s a l 0 0 (some P) (some Q) m.n m.n c d w; rwa [hrob] at h)
  have hgz := Lib.hid (show ∀ (P Q : Addr) (c d : Nat) (w : World), Calls Try.prog 9 #[rov m.n (.slice (some P) m.n c) (.slice (some Q) m.n d) s a l 0 0] w fun e w' => e = .returned (.int .i64 0) ∧ Up w w' from fun P Q c d w => gap_any m.n s a l 0 0 (.slice (some P) m.n c) (.slice (some Q) m.n d) (by decide) (by decide) (by decide) (by decide) w)
  have et := fun w => eq_buf 0 0 0 0 w
  rw [tsame_self] at et
  have eb := eq_self s a l
  have HM := Lib.hid hm
  clear hrob hst hra hm16 hn hr hl hp h0 h1 h2 hm hK
  go_enter Try.func3, Try.ntmps3
  go_wp2_with (fail)
  refine calls_at (fun V1 hV => ?_)
  have kv : Up w V1 := by rw [hV]; (repeat (first | with_reducible exact Up.refl _ | with_reducible refine Up.alloc ?_ _ | with_reducible refine Up.drew ?_ | refine Up.setCell ?_ (by simp <;> omega) _))
  have Xv : Blk V1 (w.heap.size) 31 #[.int .i64 m.n, .slice (some P) m.n c, .slice (some Q) m.n d, .int .i64 s, .int .i64 a, .int .i64 l, .int .i64 x, .int .i64 y] := by rw [hV]; (repeat (first | with_reducible exact Blk.new' _ (by simp) _ _ | with_reducible refine Blk.alloc ?_ _ | with_reducible refine Blk.drew ?_ | refine Blk.far ?_ (by simp <;> omega) _))
  have Uv : Up w V1 := kv
  clear hV kv 
  refine (shown8 _).mono ?_
  rintro e w1 ⟨rfl, k1⟩
  have X1 := Xv.up k1
  have U1 := Uv.trans k1
  clear k1 Uv Xv 
  have X1c := X1.cell
  have X1f := X1.frozen
  have X1l := X1.lt
  go_wp2_with (fail)
  refine calls_at (fun V2 hV => ?_)
  have kv : Up w1 V2 := by rw [hV]; (repeat (first | with_reducible exact Up.refl _ | with_reducible refine Up.alloc ?_ _ | with_reducible refine Up.drew ?_ | refine Up.setCell ?_ (by simp <;> omega) _))
  have Xv := X1.up kv
  have Uv : Up w V2 := U1.trans kv
  clear hV kv X1 X1c X1f X1l U1
  refine (hf.out _).mono ?_
  rintro e w2 ⟨rfl, k2⟩
  have X2 := Xv.up k2
  have U2 := Uv.trans k2
  clear k2 Uv Xv 
  have X2c := X2.cell
  have X2f := X2.frozen
  have X2l := X2.lt
  go_wp2_with (fail)
  refine calls_at (fun V3 hV => ?_)
  have kv : Up w2 V3 := by rw [hV]; (repeat (first | with_reducible exact Up.refl _ | with_reducible refine Up.alloc ?_ _ | with_reducible refine Up.drew ?_ | refine Up.setCell ?_ (by simp <;> omega) _))
  have Xv := X2.up kv
  have Uv : Up w V3 := U2.trans kv
  clear hV kv X2 X2c X2f X2l U2
  refine (hret.out V3 Uv).mono ?_
  rintro e w3 ⟨P1, Q1, c1, d1, rfl, s13, k3⟩
  have X3 := Xv.up k3
  have U3 := Uv.trans k3
  clear k3 Uv Xv 
  have X3c := X3.cell
  have X3f := X3.frozen
  have X3l := X3.lt
  go_wp2_with (fail)
  refine calls_at (fun V4 hV => ?_)
  have kv : Up w3 V4 := by rw [hV]; (repeat (first | with_reducible exact Up.refl _ | with_reducible refine Up.alloc ?_ _ | with_reducible refine Up.drew ?_ | refine Up.setCell ?_ (by simp <;> omega) _))
  have Xv := X3.up kv
  have Yv : Blk V4 (w3.heap.size) 31 #[.int .i64 m.n, .slice (some P1) m.n c1, .slice (some Q1) m.n d1, .int .i64 s, .int .i64 a, .int .i64 l, .int .i64 0, .int .i64 0] := by rw [hV]; (repeat (first | with_reducible exact Blk.new' _ (by simp) _ _ | with_reducible refine Blk.alloc ?_ _ | with_reducible refine Blk.drew ?_ | refine Blk.far ?_ (by simp <;> omega) _))
  have Uv : Up w V4 := U3.trans kv
  have s1v := s13.up kv
  clear hV kv X3 X3c X3f X3l U3 s13
  refine (retire_none m.n s a l 0 (some P1) (some Q1) m.n m.n c1 d1 (by decide) (by decide) _).mono ?_
  rintro e w4 ⟨rfl, k4⟩
  have X4 := Xv.up k4
  have Y4 := Yv.up k4
  have U4 := Uv.trans k4
  have s14 := s1v.up k4
  clear k4 Uv Xv Yv s1v
  have X4c := X4.cell
  have X4f := X4.frozen
  have X4l := X4.lt
  have Y4c := Y4.cell
  have Y4f := Y4.frozen
  have Y4l := Y4.lt
  go_wp2_with (fail)
  refine calls_at (fun V5 hV => ?_)
  have kv : Up w4 V5 := by rw [hV]; (repeat (first | with_reducible exact Up.refl _ | with_reducible refine Up.alloc ?_ _ | with_reducible refine Up.drew ?_ | refine Up.setCell ?_ (by simp <;> omega) _))
  have Xv := X4.up kv
  have Yv := Y4.up kv
  have Zv : Blk V5 (w4.heap.size) 31 #[.int .i64 m.n, .slice (some P1) m.n c1, .slice (some Q1) m.n d1, .int .i64 s, .int .i64 a, .int .i64 l, .int .i64 0, .int .i64 0] := by rw [hV]; (repeat (first | with_reducible exact Blk.new' _ (by simp) _ _ | with_reducible refine Blk.alloc ?_ _ | with_reducible refine Blk.drew ?_ | refine Blk.far ?_ (by simp <;> omega) _))
  have Nv : Blk V5 (w4.heap.size + 1) 31 #[.int .i64 m.n, .slice (some P) m.n c, .slice (some Q) m.n d, .int .i64 s, .int .i64 a, .int .i64 l, .int .i64 0, .int .i64 0] := by rw [hV]; (repeat (first | with_reducible exact Blk.new' _ (by simp) _ _ | with_reducible refine Blk.alloc ?_ _ | with_reducible refine Blk.drew ?_ | refine Blk.far ?_ (by simp <;> omega) _))
  have Uv : Up w V5 := U4.trans kv
  have s1v := s14.up kv
  clear hV kv X4 X4c X4f X4l Y4 Y4c Y4f Y4l U4 s14
  refine (rosame_self m P1 Q1 P1 Q1 c1 d1 c1 d1 s a l 0 0 V5 s1v s1v).mono ?_
  rintro e w5 ⟨rfl, k5⟩
  have X5 := Xv.up k5
  have Y5 := Yv.up k5
  have Z5 := Zv.up k5
  have N5 := Nv.up k5
  have U5 := Uv.trans k5
  have s15 := s1v.up k5
  clear k5 Uv Xv Yv Zv Nv s1v
  have X5c := X5.cell
  have X5f := X5.frozen
  have X5l := X5.lt
  have Y5c := Y5.cell
  have Y5f := Y5.frozen
  have Y5l := Y5.lt
  have Z5c := Z5.cell
  have Z5f := Z5.frozen
  have Z5l := Z5.lt
  have N5c := N5.cell
  have N5f := N5.frozen
  have N5l := N5.lt
  go_wp2_with (fail)
  refine calls_at (fun V6 hV => ?_)
  have kv : Up w5 V6 := by rw [hV]; (repeat (first | with_reducible exact Up.refl _ | with_reducible refine Up.alloc ?_ _ | with_reducible refine Up.drew ?_ | refine Up.setCell ?_ (by simp <;> omega) _))
  have Xv := X5.up kv
  have Yv := Y5.up kv
  have Zv := Z5.up kv
  have Nv := N5.up kv
  have Uv : Up w V6 := U5.trans kv
  have s1v := s15.up kv
  clear hV kv X5 X5c X5f X5l Y5 Y5c Y5f Y5l Z5 Z5c Z5f Z5l N5 N5c N5f N5l U5 s15
  refine (hgp.out _).mono ?_
  rintro e w6 ⟨rfl, k6⟩
  have X6 := Xv.up k6
  have Y6 := Yv.up k6
  have Z6 := Zv.up k6
  have N6 := Nv.up k6
  have U6 := Uv.trans k6
  have s16 := s1v.up k6
  clear k6 Uv Xv Yv Zv Nv s1v
  have X6c := X6.cell
  have X6f := X6.frozen
  have X6l := X6.lt
  have Y6c := Y6.cell
  have Y6f := Y6.frozen
  have Y6l := Y6.lt
  have Z6c := Z6.cell
  have Z6f := Z6.frozen
  have Z6l := Z6.lt
  have N6c := N6.cell
  have N6f := N6.frozen
  have N6l := N6.lt
  go_wp2_with (fail)
  refine calls_at (fun V7 hV => ?_)
  have kv : Up w6 V7 := by rw [hV]; (repeat (first | with_reducible exact Up.refl _ | with_reducible refine Up.alloc ?_ _ | with_reducible refine Up.drew ?_ | refine Up.setCell ?_ (by simp <;> omega) _))
  have Xv := X6.up kv
  have Yv := Y6.up kv
  have Zv := Z6.up kv
  have Nv := N6.up kv
  have Uv : Up w V7 := U6.trans kv
  have s1v := s16.up kv
  clear hV kv X6 X6c X6f X6l Y6 Y6c Y6f Y6l Z6 Z6c Z6f Z6l N6 N6c N6f N6l U6 s16
  refine (rosame_self m P1 Q1 P Q c1 d1 c d s a l 0 0 V7 s1v (HM.out.up Uv)).mono ?_
  rintro e w7 ⟨rfl, k7⟩
  have X7 := Xv.up k7
  have Y7 := Yv.up k7
  have Z7 := Zv.up k7
  have N7 := Nv.up k7
  have U7 := Uv.trans k7
  have s17 := s1v.up k7
  clear k7 Uv Xv Yv Zv Nv s1v
  have X7c := X7.cell
  have X7f := X7.frozen
  have X7l := X7.lt
  have Y7c := Y7.cell
  have Y7f := Y7.frozen
  have Y7l := Y7.lt
  have Z7c := Z7.cell
  have Z7f := Z7.frozen
  have Z7l := Z7.lt
  have N7c := N7.cell
  have N7f := N7.frozen
  have N7l := N7.lt
  go_wp2_with (fail)
  refine calls_at (fun V8 hV => ?_)
  have kv : Up w7 V8 := by rw [hV]; (repeat (first | with_reducible exact Up.refl _ | with_reducible refine Up.alloc ?_ _ | with_reducible refine Up.drew ?_ | refine Up.setCell ?_ (by simp <;> omega) _))
  have Xv := X7.up kv
  have Yv := Y7.up kv
  have Zv := Z7.up kv
  have Nv := N7.up kv
  have Uv : Up w V8 := U7.trans kv
  have s1v := s17.up kv
  clear hV kv X7 X7c X7f X7l Y7 Y7c Y7f Y7l Z7 Z7c Z7f Z7l N7 N7c N7f N7l U7 s17
  refine (hgz.out _ _ _ _ _).mono ?_
  rintro e w8 ⟨rfl, k8⟩
  have X8 := Xv.up k8
  have Y8 := Yv.up k8
  have Z8 := Zv.up k8
  have N8 := Nv.up k8
  have U8 := Uv.trans k8
  have s18 := s1v.up k8
  clear k8 Uv Xv Yv Zv Nv s1v
  have X8c := X8.cell
  have X8f := X8.frozen
  have X8l := X8.lt
  have Y8c := Y8.cell
  have Y8f := Y8.frozen
  have Y8l := Y8.lt
  have Z8c := Z8.cell
  have Z8f := Z8.frozen
  have Z8l := Z8.lt
  have N8c := N8.cell
  have N8f := N8.frozen
  have N8l := N8.lt
  go_wp2_with (fail)
  refine calls_at (fun V9 hV => ?_)
  have kv : Up w8 V9 := by rw [hV]; (repeat (first | with_reducible exact Up.refl _ | with_reducible refine Up.alloc ?_ _ | with_reducible refine Up.drew ?_ | refine Up.setCell ?_ (by simp <;> omega) _))
  have Xv := X8.up kv
  have Yv := Y8.up kv
  have Zv := Z8.up kv
  have Nv := N8.up kv
  have Uv : Up w V9 := U8.trans kv
  have s1v := s18.up kv
  clear hV kv X8 X8c X8f X8l Y8 Y8c Y8f Y8l Z8 Z8c Z8f Z8l N8 N8c N8f N8l U8 s18
  refine (hrr.out _ _ _ _ _).mono ?_
  rintro e w9 ⟨rfl, k9⟩
  have X9 := Xv.up k9
  have Y9 := Yv.up k9
  have Z9 := Zv.up k9
  have N9 := Nv.up k9
  have U9 := Uv.trans k9
  have s19 := s1v.up k9
  clear k9 Uv Xv Yv Zv Nv s1v
  have X9c := X9.cell
  have X9f := X9.frozen
  have X9l := X9.lt
  have Y9c := Y9.cell
  have Y9f := Y9.frozen
  have Y9l := Y9.lt
  have Z9c := Z9.cell
  have Z9f := Z9.frozen
  have Z9l := Z9.lt
  have N9c := N9.cell
  have N9f := N9.frozen
  have N9l := N9.lt
  go_wp2
  go_ret
  refine ⟨rfl, ?_⟩
  (repeat (first | with_reducible exact U9 | with_reducible refine Up.alloc ?_ _ | with_reducible refine Up.drew ?_ | refine Up.setCell ?_ (by simp <;> omega) _))

theorem walk (N : Int) (A0 A1 : Option Addr) (n0 n1 c0 c1 : Nat) (s a l x y : Int) (xs ys : List Int) (w : World) (hx : SlOk w A0 n0 c0 xs) (hy : SlOk w A1 n1 c1 ys) :
    Calls Try.prog 3 #[.agg #[.int .i64 N, .slice A0 n0 c0, .slice A1 n1 c1, .int .i64 s, .int .i64 a, .int .i64 l, .int .i64 x, .int .i64 y]] w (fun e w' => e = .returned (.bool true) ∧ Up w w') := by
  cases hfew : fewr N n0 n1 s a l x y
  · exact walk_no N A0 A1 n0 n1 c0 c1 s a l x y hfew w
  · obtain ⟨rfl, rfl, h16, h200, hr, hl, hp⟩ := fewr_is hfew
    obtain ⟨P, Q, rfl, rfl, hm⟩ := sits_of hx hy h16 (by omega)
    have ha := hr.2.1
    by_cases h : x < y
    · exact walk_gap ⟨n0, xs, ys⟩ P Q c0 c1 s a l x y w hm h200 hr hl (by omega) h (by omega)
    · exact walk_eq ⟨n0, xs, ys⟩ P Q c0 c1 s a l x y w hm h200 hr hl (by omega) (by omega) (by omega)

theorem own : ownKnob Try.prog.godebug = none := by kernel_rfl
set_option maxRecDepth 100000 in
theorem lifted (os : Os) (started : os.Started) (H : Type) (enc : TypeId × Value → H) :
    ReturnsInHanded {} Try.checked os 3 .any (Rows.bufRetiresSpec.pre6 enc Try.prog Try.f3 Rows.bufRetiresRow.domain false) (Rows.bufRetiresSpec.post enc Try.prog Try.f3 false true false false) := by
  refine returnsInHanded_of_change (C := Try.checked) own started (by kernel_rfl) Try.func3
    (ChangeSpec.witness6 (enc := enc) (C := Try.checked) false ⟨#[], #[.agg #[.int .i64 0, .slice none 0 0, .slice none 0 0, .int .i64 0, .int .i64 0, .int .i64 0, .int .i64 0, .int .i64 0]], []⟩ 8 (by kernel_rfl) (by kernel_rfl) (by kernel_rfl) (by kernel_rfl)) ?_
  intro W base args ds gs before hval0 hW hcnd _
  have hval : ∀ (j : Nat) t v, Try.f3.params[j]? = some t → args[j]? = some v → Value.okWide Try.prog W .any base t v := hval0
  have hW' := hW
  obtain ⟨p, q, hA0, hV, rfl, hfz, hnd⟩ := hW
  have hA : DataW.TrodAll enc Try.prog W 0 (fun _ => true) true Try.f3.params.toList args.toList ds p := hA0
  rw [Try.params3] at hA hval
  obtain ⟨v0, vs0, d0, ds0, p0, q0, hargs, rfl, rfl, h0, r0⟩ := trodAll_cons hA
  obtain ⟨rfl, rfl, rfl⟩ := trodAll_nil r0
  obtain rfl : args = #[v0] := by cases args; simp_all
  obtain ⟨rfl, rfl⟩ := trodVars_none hV
  have h0k := h0
  obtain ⟨N, A0, A1, n0, n1, c0, c1, xs, ys, s, a, l, x, y, rfl, hN, hx, hy, hs, ha, hl, hxx, hyy⟩ := room_open (hval 0 31 v0 rfl rfl) h0
  clear hA0 hval0
  simp only [List.append_nil, List.nil_append] at hW'
  refine (walk N A0 A1 n0 n1 c0 c1 s a l x y xs ys W hx hy).mono fun e W' ⟨he, hg⟩ => ?_
  subst he
  exact ⟨_, rfl, post_below (pa := p0) (pv := []) hW' (fun _ _ _ => (trodAll_cons_mk (shut_bool Try.underlying4 _) trodAll_mk0))
    (fun sp hsp => by
      have t := (trodAll_cons_mk (trod_keeps (sp := sp) (by kernel_rfl) (of_decide_eq_true (by kernel_rfl)) h0k hg (fun x hx => hW'.lt x (by simp [hx])) (fun x hx => hsp x (by simp [hx]))) trodAll_mk0)
      simp only [List.append_nil, List.nil_append] at t
      exact t) (fun _ _ => rfl) (by simp)
    hg (ok_one (by kernel_rfl) rfl (okWide_bool_mk Try.underlying4 _))⟩

set_option maxRecDepth 100000 in
theorem over : Rows.bufRetiresRow.holds Try.pinned (OpenSpec.ofChange Rows.bufRetiresSpec) :=
  OpenClaim.holds_of_wide 3 Try.f3 rfl rfl rfl rfl rfl rfl rfl ⟨rfl, rfl, rfl, rfl, rfl⟩ rfl rfl rfl rfl rfl (by kernel_rfl) Try.func3 (by kernel_rfl)
    (of_decide_eq_true (by kernel_rfl)) (by unfold Func.isWrapper; first | (rw [if_pos (by decide +kernel)]; kernel_rfl) | (rw [if_neg (by decide +kernel)]; exact ⟨rfl, rfl⟩))
    (fun os started H enc _ => lifted os started H enc)

theorem proved : Rows.BufRetiresSaid :=
  over
#print axioms proved
end Go.Proofs.Ytjolikgficknnaa.LBufRetires
