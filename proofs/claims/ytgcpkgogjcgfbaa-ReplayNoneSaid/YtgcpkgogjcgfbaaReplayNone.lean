/- The statement ReplayNone is proved for every input, from contracts of the functions that it calls; no condition is added. -/
import Derived.Test.YtgcpkgogjcgfbaaRpA
import Derived.Test.YtgcpkgogjcgfbaaRpB
namespace Go.Proofs.Ytgcpkgogjcgfbaa.LReplayNone
open Go.Joins Go.ChangeShapes Go.WideShapes Go.ChangeAt Go.RowKit Go.Deep
set_option linter.unusedVariables false
set_option linter.unusedSimpArgs false

set_option maxRecDepth 100000 in
set_option maxHeartbeats 8000000 in
theorem walk_no (N : Int) (A0 A1 : Option Addr) (n0 n1 c0 c1 : Nat) (s a l x y : Int) (o f : Int) (hfew : fewr N n0 n1 s a l x y = false) (w : World) :
    Calls Try.prog 4 #[.agg #[.int .i64 N, .slice A0 n0 c0, .slice A1 n1 c1, .int .i64 s, .int .i64 a, .int .i64 l, .int .i64 x, .int .i64 y], .agg #[.int .u64 o, .int .i64 f]] w (fun e w' => e = .returned (.bool true) ∧ Up w w') := by
  have hf := fun w => fewr_any N s a l x y A0 A1 n0 n1 c0 c1 w
  rw [hfew] at hf
  have hf := Lib.hid hf
  go_enter Try.func4, Try.ntmps4
  go_wp2_with (fail)
  refine calls_at (fun V1 hV => ?_)
  have kv : Up w V1 := by rw [hV]; (repeat (first | with_reducible exact Up.refl _ | with_reducible refine Up.alloc ?_ _ | with_reducible refine Up.drew ?_ | refine Up.setCell ?_ (by simp <;> omega) _))
  have Xv : Blk V1 (w.heap.size) 31 #[.int .i64 N, .slice A0 n0 c0, .slice A1 n1 c1, .int .i64 s, .int .i64 a, .int .i64 l, .int .i64 x, .int .i64 y] := by rw [hV]; (repeat (first | with_reducible exact Blk.new' _ (by simp) _ _ | with_reducible refine Blk.alloc ?_ _ | with_reducible refine Blk.drew ?_ | refine Blk.far ?_ (by simp <;> omega) _))
  have Ev : Blk V1 (w.heap.size + 1) 46 #[.int .u64 o, .int .i64 f] := by rw [hV]; (repeat (first | with_reducible exact Blk.new' _ (by simp) _ _ | with_reducible refine Blk.alloc ?_ _ | with_reducible refine Blk.drew ?_ | refine Blk.far ?_ (by simp <;> omega) _))
  have Uv : Up w V1 := kv
  clear hV kv 
  refine (shown13 _).mono ?_
  rintro e w1 ⟨rfl, k1⟩
  have X1 := Xv.up k1
  have E1 := Ev.up k1
  have U1 := Uv.trans k1
  clear k1 Uv Xv Ev 
  have X1c := X1.cell
  have X1f := X1.frozen
  have X1l := X1.lt
  have E1c := E1.cell
  have E1f := E1.frozen
  have E1l := E1.lt
  go_wp2_with (fail)
  refine calls_at (fun V2 hV => ?_)
  have kv : Up w1 V2 := by rw [hV]; (repeat (first | with_reducible exact Up.refl _ | with_reducible refine Up.alloc ?_ _ | with_reducible refine Up.drew ?_ | refine Up.setCell ?_ (by simp <;> omega) _))
  have Xv := X1.up kv
  have Ev := E1.up kv
  have Uv : Up w V2 := U1.trans kv
  clear hV kv X1 X1c X1f X1l E1 E1c E1f E1l U1
  refine (hf.out _).mono ?_
  rintro e w2 ⟨rfl, k2⟩
  have X2 := Xv.up k2
  have E2 := Ev.up k2
  have U2 := Uv.trans k2
  clear k2 Uv Xv Ev 
  have X2c := X2.cell
  have X2f := X2.frozen
  have X2l := X2.lt
  have E2c := E2.cell
  have E2f := E2.frozen
  have E2l := E2.lt
  go_wp2
  go_ret
  refine ⟨rfl, ?_⟩
  (repeat (first | with_reducible exact U2 | with_reducible refine Up.alloc ?_ _ | with_reducible refine Up.drew ?_ | refine Up.setCell ?_ (by simp <;> omega) _))

set_option maxRecDepth 100000 in
set_option maxHeartbeats 8000000 in
theorem walk_up (m : Me) (P Q : Addr) (c d : Nat) (s a l x y : Int) (o f : Int) (ho : U64 o) (w : World) (hm : Sits w m P Q c d) (hwf : m.wf) (hn : m.n ≤ 200) (hr : rgt s a l) (hl : l = m.n) (hp : (x = 0 ∧ y = 0) ∨ (0 ≤ x ∧ x ≤ y ∧ y ≤ a)) (h0 : m.twv o ≠ 0) (h1 : ovb s o = false) :
    Calls Try.prog 4 #[.agg #[.int .i64 m.n, .slice (some P) m.n c, .slice (some Q) m.n d, .int .i64 s, .int .i64 a, .int .i64 l, .int .i64 x, .int .i64 y], .agg #[.int .u64 o, .int .i64 f]] w (fun e w' => e = .returned (.bool true) ∧ Up w w') := by
  have hf := fun w => fewr_any m.n s a l x y (some P) (some Q) m.n m.n c d w
  rw [fewr_ok m s a l x y hm.1 hn hr hl hp] at hf
  have hf := Lib.hid hf
  have hAl := Lib.hid (show ∀ (W : World) (U : Up w W), Calls Try.prog 9 #[rov m.n (sl P m.n c) (sl Q m.n d) s a l x y, .slice none 0 0] W (fun e w' => ∃ P' Q' c' d', e = .returned (.tuple #[rov m.n (sl P' m.n c') (sl Q' m.n d') s a l x y, .int .i64 0, .int .i64 0]) ∧ Sits w' m P' Q' c' d' ∧ Up W w') from fun W U =>
    E.all_any m s a l x y P Q c d _ [] W (hm.up U) hwf hr hl (E.Sl.nil W) (by simp))
  have hLo := Lib.hid (show ∀ (W : World) (U : Up w W), Calls Try.prog 10 #[rov m.n (sl P m.n c) (sl Q m.n d) s a l x y, .slice none 0 0] W (fun e w' => ∃ P' Q' c' d' A' k', e = .returned (.tuple #[rov m.n (sl P' m.n c') (sl Q' m.n d') s a l x y, .slice A' 0 k', .int .i64 0]) ∧ Sits w' m P' Q' c' d' ∧ Up W w') from fun W U => by
    refine (E.logs_any m s a l x y P Q c d _ [] W (hm.up U) hwf hr hl (E.Rw.nil W) (by simp) (by simp) (by simp)).mono ?_
    rintro e w' ⟨P', Q', c', d', v, rfl, hs, hv, hu⟩
    obtain ⟨A', k', rfl, -⟩ := hv
    exact ⟨P', Q', c', d', A', k', rfl, hs, hu⟩)
  have hSa := Lib.hid (fun (P1 Q1 : Addr) (c1 d1 : Nat) (W : World) (U : Up w W) (S : Sits W m P1 Q1 c1 d1) => rosame_self m P1 Q1 P Q c1 d1 c d s a l x y W S (hm.up U))
  have hTw := Lib.hid (fun (W : World) (U : Up w W) => rtwin_any m o P Q c d W (hm.up U) ho hwf)
  have hOv := Lib.hid (fun (W : World) => rover_any m.n s a l x y o (sl P m.n c) (sl Q m.n d) W ho)
  have q0 : (m.twv o != 0) = true := bne_iff_ne.2 h0
  rw [h1] at hOv
  generalize m.twv o = tv at hTw q0
  generalize m.kne o = kn at hTw
  clear hm hwf hn hr hl hp ho h0 h1
  go_enter Try.func4, Try.ntmps4
  go_wp2_with (fail)
  refine calls_at (fun V1 hV => ?_)
  have kv : Up w V1 := by rw [hV]; (repeat (first | with_reducible exact Up.refl _ | with_reducible refine Up.alloc ?_ _ | with_reducible refine Up.drew ?_ | refine Up.setCell ?_ (by simp <;> omega) _))
  have Xv : Blk V1 (w.heap.size) 31 #[.int .i64 m.n, .slice (some P) m.n c, .slice (some Q) m.n d, .int .i64 s, .int .i64 a, .int .i64 l, .int .i64 x, .int .i64 y] := by rw [hV]; (repeat (first | with_reducible exact Blk.new' _ (by simp) _ _ | with_reducible refine Blk.alloc ?_ _ | with_reducible refine Blk.drew ?_ | refine Blk.far ?_ (by simp <;> omega) _))
  have Ev : Blk V1 (w.heap.size + 1) 46 #[.int .u64 o, .int .i64 f] := by rw [hV]; (repeat (first | with_reducible exact Blk.new' _ (by simp) _ _ | with_reducible refine Blk.alloc ?_ _ | with_reducible refine Blk.drew ?_ | refine Blk.far ?_ (by simp <;> omega) _))
  have Uv : Up w V1 := kv
  clear hV kv 
  refine (shown13 _).mono ?_
  rintro e w1 ⟨rfl, k1⟩
  have X1 := Xv.up k1
  have E1 := Ev.up k1
  have U1 := Uv.trans k1
  clear k1 Uv Xv Ev 
  have X1c := X1.cell
  have X1f := X1.frozen
  have X1l := X1.lt
  have E1c := E1.cell
  have E1f := E1.frozen
  have E1l := E1.lt
  go_wp2_with (fail)
  refine calls_at (fun V2 hV => ?_)
  have kv : Up w1 V2 := by rw [hV]; (repeat (first | with_reducible exact Up.refl _ | with_reducible refine Up.alloc ?_ _ | with_reducible refine Up.drew ?_ | refine Up.setCell ?_ (by simp <;> omega) _))
  have Xv := X1.up kv
  have Ev := E1.up kv
  have Uv : Up w V2 := U1.trans kv
  clear hV kv X1 X1c X1f X1l E1 E1c E1f E1l U1
  refine (hf.out _).mono ?_
  rintro e w2 ⟨rfl, k2⟩
  have X2 := Xv.up k2
  have E2 := Ev.up k2
  have U2 := Uv.trans k2
  clear k2 Uv Xv Ev 
  have X2c := X2.cell
  have X2f := X2.frozen
  have X2l := X2.lt
  have E2c := E2.cell
  have E2f := E2.frozen
  have E2l := E2.lt
  go_wp2_with (fail)
  refine calls_at (fun V3 hV => ?_)
  have kv : Up w2 V3 := by rw [hV]; (repeat (first | with_reducible exact Up.refl _ | with_reducible refine Up.alloc ?_ _ | with_reducible refine Up.drew ?_ | refine Up.setCell ?_ (by simp <;> omega) _))
  have Xv := X2.up kv
  have Ev := E2.up kv
  have Uv : Up w V3 := U2.trans kv
  clear hV kv X2 X2c X2f X2l E2 E2c E2f E2l U2
  refine (hAl.out V3 Uv).mono ?_
  rintro e w3 ⟨P1, Q1, c1, d1, rfl, s13, k3⟩
  have X3 := Xv.up k3
  have E3 := Ev.up k3
  have U3 := Uv.trans k3
  clear k3 Uv Xv Ev 
  have X3c := X3.cell
  have X3f := X3.frozen
  have X3l := X3.lt
  have E3c := E3.cell
  have E3f := E3.frozen
  have E3l := E3.lt
  go_wp2_with (fail)
  refine calls_at (fun V4 hV => ?_)
  have kv : Up w3 V4 := by rw [hV]; (repeat (first | with_reducible exact Up.refl _ | with_reducible refine Up.alloc ?_ _ | with_reducible refine Up.drew ?_ | refine Up.setCell ?_ (by simp <;> omega) _))
  have Xv := X3.up kv
  have Ev := E3.up kv
  have Yv : Blk V4 (w3.heap.size) 31 #[.int .i64 m.n, .slice (some P1) m.n c1, .slice (some Q1) m.n d1, .int .i64 s, .int .i64 a, .int .i64 l, .int .i64 x, .int .i64 y] := by rw [hV]; (repeat (first | with_reducible exact Blk.new' _ (by simp) _ _ | with_reducible refine Blk.alloc ?_ _ | with_reducible refine Blk.drew ?_ | refine Blk.far ?_ (by simp <;> omega) _))
  have Uv : Up w V4 := U3.trans kv
  have s1v := s13.up kv
  clear hV kv X3 X3c X3f X3l E3 E3c E3f E3l U3 s13
  refine (hLo.out V4 Uv).mono ?_
  rintro e w4 ⟨P2, Q2, c2, d2, A3, k3, rfl, s24, k4⟩
  have X4 := Xv.up k4
  have E4 := Ev.up k4
  have Y4 := Yv.up k4
  have U4 := Uv.trans k4
  have s14 := s1v.up k4
  clear k4 Uv Xv Ev Yv s1v
  have X4c := X4.cell
  have X4f := X4.frozen
  have X4l := X4.lt
  have E4c := E4.cell
  have E4f := E4.frozen
  have E4l := E4.lt
  have Y4c := Y4.cell
  have Y4f := Y4.frozen
  have Y4l := Y4.lt
  go_wp2_with (fail)
  refine calls_at (fun V5 hV => ?_)
  have kv : Up w4 V5 := by rw [hV]; (repeat (first | with_reducible exact Up.refl _ | with_reducible refine Up.alloc ?_ _ | with_reducible refine Up.drew ?_ | refine Up.setCell ?_ (by simp <;> omega) _))
  have Xv := X4.up kv
  have Ev := E4.up kv
  have Yv := Y4.up kv
  have Zv : Blk V5 (w4.heap.size) 31 #[.int .i64 m.n, .slice (some P2) m.n c2, .slice (some Q2) m.n d2, .int .i64 s, .int .i64 a, .int .i64 l, .int .i64 x, .int .i64 y] := by rw [hV]; (repeat (first | with_reducible exact Blk.new' _ (by simp) _ _ | with_reducible refine Blk.alloc ?_ _ | with_reducible refine Blk.drew ?_ | refine Blk.far ?_ (by simp <;> omega) _))
  have Uv : Up w V5 := U4.trans kv
  have s1v := s14.up kv
  have s2v := s24.up kv
  clear hV kv X4 X4c X4f X4l E4 E4c E4f E4l Y4 Y4c Y4f Y4l U4 s14 s24
  refine (hSa.out P1 Q1 c1 d1 V5 Uv s1v).mono ?_
  rintro e w5 ⟨rfl, k5⟩
  have X5 := Xv.up k5
  have E5 := Ev.up k5
  have Y5 := Yv.up k5
  have Z5 := Zv.up k5
  have U5 := Uv.trans k5
  have s15 := s1v.up k5
  have s25 := s2v.up k5
  clear k5 Uv Xv Ev Yv Zv s1v s2v
  have X5c := X5.cell
  have X5f := X5.frozen
  have X5l := X5.lt
  have E5c := E5.cell
  have E5f := E5.frozen
  have E5l := E5.lt
  have Y5c := Y5.cell
  have Y5f := Y5.frozen
  have Y5l := Y5.lt
  have Z5c := Z5.cell
  have Z5f := Z5.frozen
  have Z5l := Z5.lt
  go_wp2_with (fail)
  refine calls_at (fun V6 hV => ?_)
  have kv : Up w5 V6 := by rw [hV]; (repeat (first | with_reducible exact Up.refl _ | with_reducible refine Up.alloc ?_ _ | with_reducible refine Up.drew ?_ | refine Up.setCell ?_ (by simp <;> omega) _))
  have Xv := X5.up kv
  have Ev := E5.up kv
  have Yv := Y5.up kv
  have Zv := Z5.up kv
  have Uv : Up w V6 := U5.trans kv
  have s1v := s15.up kv
  have s2v := s25.up kv
  clear hV kv X5 X5c X5f X5l E5 E5c E5f E5l Y5 Y5c Y5f Y5l Z5 Z5c Z5f Z5l U5 s15 s25
  refine (hSa.out P2 Q2 c2 d2 V6 Uv s2v).mono ?_
  rintro e w6 ⟨rfl, k6⟩
  have X6 := Xv.up k6
  have E6 := Ev.up k6
  have Y6 := Yv.up k6
  have Z6 := Zv.up k6
  have U6 := Uv.trans k6
  have s16 := s1v.up k6
  have s26 := s2v.up k6
  clear k6 Uv Xv Ev Yv Zv s1v s2v
  have X6c := X6.cell
  have X6f := X6.frozen
  have X6l := X6.lt
  have E6c := E6.cell
  have E6f := E6.frozen
  have E6l := E6.lt
  have Y6c := Y6.cell
  have Y6f := Y6.frozen
  have Y6l := Y6.lt
  have Z6c := Z6.cell
  have Z6f := Z6.frozen
  have Z6l := Z6.lt
  go_wp2_with (fail)
  refine calls_at (fun V7 hV => ?_)
  have kv : Up w6 V7 := by rw [hV]; (repeat (first | with_reducible exact Up.refl _ | with_reducible refine Up.alloc ?_ _ | with_reducible refine Up.drew ?_ | refine Up.setCell ?_ (by simp <;> omega) _))
  have Xv := X6.up kv
  have Ev := E6.up kv
  have Yv := Y6.up kv
  have Zv := Z6.up kv
  have Uv : Up w V7 := U6.trans kv
  have s1v := s16.up kv
  have s2v := s26.up kv
  clear hV kv X6 X6c X6f X6l E6 E6c E6f E6l Y6 Y6c Y6f Y6l Z6 Z6c Z6f Z6l U6 s16 s26
  refine (hTw.out V7 Uv).mono ?_
  rintro e w7 ⟨rfl, k7⟩
  have X7 := Xv.up k7
  have E7 := Ev.up k7
  have Y7 := Yv.up k7
  have Z7 := Zv.up k7
  have U7 := Uv.trans k7
  have s17 := s1v.up k7
  have s27 := s2v.up k7
  clear k7 Uv Xv Ev Yv Zv s1v s2v
  have X7c := X7.cell
  have X7f := X7.frozen
  have X7l := X7.lt
  have E7c := E7.cell
  have E7f := E7.frozen
  have E7l := E7.lt
  have Y7c := Y7.cell
  have Y7f := Y7.frozen
  have Y7l := Y7.lt
  have Z7c := Z7.cell
  have Z7f := Z7.frozen
  have Z7l := Z7.lt
  go_wp2_with (fail)
  refine calls_at (fun V8 hV => ?_)
  have kv : Up w7 V8 := by rw [hV]; (repeat (first | with_reducible exact Up.refl _ | with_reducible refine Up.alloc ?_ _ | with_reducible refine Up.drew ?_ | refine Up.setCell ?_ (by simp <;> omega) _))
  have Xv := X7.up kv
  have Ev := E7.up kv
  have Yv := Y7.up kv
  have Zv := Z7.up kv
  have Uv : Up w V8 := U7.trans kv
  have s1v := s17.up kv
  have s2v := s27.up kv
  clear hV kv X7 X7c X7f X7l E7 E7c E7f E7l Y7 Y7c Y7f Y7l Z7 Z7c Z7f Z7l U7 s17 s27
  refine (hOv.out V8).mono ?_
  rintro e w8 ⟨rfl, k8⟩
  have X8 := Xv.up k8
  have E8 := Ev.up k8
  have Y8 := Yv.up k8
  have Z8 := Zv.up k8
  have U8 := Uv.trans k8
  have s18 := s1v.up k8
  have s28 := s2v.up k8
  clear k8 Uv Xv Ev Yv Zv s1v s2v
  have X8c := X8.cell
  have X8f := X8.frozen
  have X8l := X8.lt
  have E8c := E8.cell
  have E8f := E8.frozen
  have E8l := E8.lt
  have Y8c := Y8.cell
  have Y8f := Y8.frozen
  have Y8l := Y8.lt
  have Z8c := Z8.cell
  have Z8f := Z8.frozen
  have Z8l := Z8.lt
  go_wp2
  go_ret
  refine ⟨rfl, ?_⟩
  (repeat (first | with_reducible exact U8 | with_reducible refine Up.alloc ?_ _ | with_reducible refine Up.drew ?_ | refine Up.setCell ?_ (by simp <;> omega) _))

set_option maxRecDepth 100000 in
set_option maxHeartbeats 8000000 in
theorem walk_over (m : Me) (P Q : Addr) (c d : Nat) (s a l x y : Int) (o f : Int) (ho : U64 o) (er : Int) (w : World) (hm : Sits w m P Q c d) (hwf : m.wf) (hn : m.n ≤ 200) (hr : rgt s a l) (hl : l = m.n) (hp : (x = 0 ∧ y = 0) ∨ (0 ≤ x ∧ x ≤ y ∧ y ≤ a)) (h0 : m.twv o ≠ 0) (h1 : ovb s o = true) (hrep : rep m s a l o f = ⟨m, a, er⟩) :
    Calls Try.prog 4 #[.agg #[.int .i64 m.n, .slice (some P) m.n c, .slice (some Q) m.n d, .int .i64 s, .int .i64 a, .int .i64 l, .int .i64 x, .int .i64 y], .agg #[.int .u64 o, .int .i64 f]] w (fun e w' => e = .returned (.bool true) ∧ Up w w') := by
  have hf := fun w => fewr_any m.n s a l x y (some P) (some Q) m.n m.n c d w
  rw [fewr_ok m s a l x y hm.1 hn hr hl hp] at hf
  have hf := Lib.hid hf
  have hAl := Lib.hid (show ∀ (W : World) (U : Up w W), Calls Try.prog 9 #[rov m.n (sl P m.n c) (sl Q m.n d) s a l x y, .slice none 0 0] W (fun e w' => ∃ P' Q' c' d', e = .returned (.tuple #[rov m.n (sl P' m.n c') (sl Q' m.n d') s a l x y, .int .i64 0, .int .i64 0]) ∧ Sits w' m P' Q' c' d' ∧ Up W w') from fun W U =>
    E.all_any m s a l x y P Q c d _ [] W (hm.up U) hwf hr hl (E.Sl.nil W) (by simp))
  have hLo := Lib.hid (show ∀ (W : World) (U : Up w W), Calls Try.prog 10 #[rov m.n (sl P m.n c) (sl Q m.n d) s a l x y, .slice none 0 0] W (fun e w' => ∃ P' Q' c' d' A' k', e = .returned (.tuple #[rov m.n (sl P' m.n c') (sl Q' m.n d') s a l x y, .slice A' 0 k', .int .i64 0]) ∧ Sits w' m P' Q' c' d' ∧ Up W w') from fun W U => by
    refine (E.logs_any m s a l x y P Q c d _ [] W (hm.up U) hwf hr hl (E.Rw.nil W) (by simp) (by simp) (by simp)).mono ?_
    rintro e w' ⟨P', Q', c', d', v, rfl, hs, hv, hu⟩
    obtain ⟨A', k', rfl, -⟩ := hv
    exact ⟨P', Q', c', d', A', k', rfl, hs, hu⟩)
  have hSa := Lib.hid (fun (P1 Q1 : Addr) (c1 d1 : Nat) (W : World) (U : Up w W) (S : Sits W m P1 Q1 c1 d1) => rosame_self m P1 Q1 P Q c1 d1 c d s a l x y W S (hm.up U))
  have hTw := Lib.hid (fun (W : World) (U : Up w W) => rtwin_any m o P Q c d W (hm.up U) ho hwf)
  have hOv := Lib.hid (fun (W : World) => rover_any m.n s a l x y o (sl P m.n c) (sl Q m.n d) W ho)
  have q0 : (m.twv o != 0) = true := bne_iff_ne.2 h0
  rw [h1] at hOv
  have hOne := Lib.hid (show ∀ (W : World) (U : Up w W), Calls Try.prog 15 #[rov m.n (sl P m.n c) (sl Q m.n d) s a l x y, .agg #[.int .u64 o, .int .i64 f]] W (fun e w' => ∃ P' Q' c' d', e = .returned (.tuple #[rov m.n (sl P' m.n c') (sl Q' m.n d') s a l x y, .int .i64 er]) ∧ Sits w' m P' Q' c' d' ∧ Up W w') from fun W U => by
    have q := one_any m s a l x y o f P Q c d W (hm.up U) hwf ho hr hl
    rw [hrep] at q
    exact q)
  generalize m.twv o = tv at hTw q0
  generalize m.kne o = kn at hTw
  clear hm hwf hn hr hl hp ho h0 h1 hrep
  go_enter Try.func4, Try.ntmps4
  go_wp2_with (fail)
  refine calls_at (fun V1 hV => ?_)
  have kv : Up w V1 := by rw [hV]; (repeat (first | with_reducible exact Up.refl _ | with_reducible refine Up.alloc ?_ _ | with_reducible refine Up.drew ?_ | refine Up.setCell ?_ (by simp <;> omega) _))
  have Xv : Blk V1 (w.heap.size) 31 #[.int .i64 m.n, .slice (some P) m.n c, .slice (some Q) m.n d, .int .i64 s, .int .i64 a, .int .i64 l, .int .i64 x, .int .i64 y] := by rw [hV]; (repeat (first | with_reducible exact Blk.new' _ (by simp) _ _ | with_reducible refine Blk.alloc ?_ _ | with_reducible refine Blk.drew ?_ | refine Blk.far ?_ (by simp <;> omega) _))
  have Ev : Blk V1 (w.heap.size + 1) 46 #[.int .u64 o, .int .i64 f] := by rw [hV]; (repeat (first | with_reducible exact Blk.new' _ (by simp) _ _ | with_reducible refine Blk.alloc ?_ _ | with_reducible refine Blk.drew ?_ | refine Blk.far ?_ (by simp <;> omega) _))
  have Uv : Up w V1 := kv
  clear hV kv 
  refine (shown13 _).mono ?_
  rintro e w1 ⟨rfl, k1⟩
  have X1 := Xv.up k1
  have E1 := Ev.up k1
  have U1 := Uv.trans k1
  clear k1 Uv Xv Ev 
  have X1c := X1.cell
  have X1f := X1.frozen
  have X1l := X1.lt
  have E1c := E1.cell
  have E1f := E1.frozen
  have E1l := E1.lt
  go_wp2_with (fail)
  refine calls_at (fun V2 hV => ?_)
  have kv : Up w1 V2 := by rw [hV]; (repeat (first | with_reducible exact Up.refl _ | with_reducible refine Up.alloc ?_ _ | with_reducible refine Up.drew ?_ | refine Up.setCell ?_ (by simp <;> omega) _))
  have Xv := X1.up kv
  have Ev := E1.up kv
  have Uv : Up w V2 := U1.trans kv
  clear hV kv X1 X1c X1f X1l E1 E1c E1f E1l U1
  refine (hf.out _).mono ?_
  rintro e w2 ⟨rfl, k2⟩
  have X2 := Xv.up k2
  have E2 := Ev.up k2
  have U2 := Uv.trans k2
  clear k2 Uv Xv Ev 
  have X2c := X2.cell
  have X2f := X2.frozen
  have X2l := X2.lt
  have E2c := E2.cell
  have E2f := E2.frozen
  have E2l := E2.lt
  go_wp2_with (fail)
  refine calls_at (fun V3 hV => ?_)
  have kv : Up w2 V3 := by rw [hV]; (repeat (first | with_reducible exact Up.refl _ | with_reducible refine Up.alloc ?_ _ | with_reducible refine Up.drew ?_ | refine Up.setCell ?_ (by simp <;> omega) _))
  have Xv := X2.up kv
  have Ev := E2.up kv
  have Uv : Up w V3 := U2.trans kv
  clear hV kv X2 X2c X2f X2l E2 E2c E2f E2l U2
  refine (hAl.out V3 Uv).mono ?_
  rintro e w3 ⟨P1, Q1, c1, d1, rfl, s13, k3⟩
  have X3 := Xv.up k3
  have E3 := Ev.up k3
  have U3 := Uv.trans k3
  clear k3 Uv Xv Ev 
  have X3c := X3.cell
  have X3f := X3.frozen
  have X3l := X3.lt
  have E3c := E3.cell
  have E3f := E3.frozen
  have E3l := E3.lt
  go_wp2_with (fail)
  refine calls_at (fun V4 hV => ?_)
  have kv : Up w3 V4 := by rw [hV]; (repeat (first | with_reducible exact Up.refl _ | with_reducible refine Up.alloc ?_ _ | with_reducible refine Up.drew ?_ | refine Up.setCell ?_ (by simp <;> omega) _))
  have Xv := X3.up kv
  have Ev := E3.up kv
  have Yv : Blk V4 (w3.heap.size) 31 #[.int .i64 m.n, .slice (some P1) m.n c1, .slice (some Q1) m.n d1, .int .i64 s, .int .i64 a, .int .i64 l, .int .i64 x, .int .i64 y] := by rw [hV]; (repeat (first | with_reducible exact Blk.new' _ (by simp) _ _ | with_reducible refine Blk.alloc ?_ _ | with_reducible refine Blk.drew ?_ | refine Blk.far ?_ (by simp <;> omega) _))
  have Uv : Up w V4 := U3.trans kv
  have s1v := s13.up kv
  clear hV kv X3 X3c X3f X3l E3 E3c E3f E3l U3 s13
  refine (hLo.out V4 Uv).mono ?_
  rintro e w4 ⟨P2, Q2, c2, d2, A3, k3, rfl, s24, k4⟩
  have X4 := Xv.up k4
  have E4 := Ev.up k4
  have Y4 := Yv.up k4
  have U4 := Uv.trans k4
  have s14 := s1v.up k4
  clear k4 Uv Xv Ev Yv s1v
  have X4c := X4.cell
  have X4f := X4.frozen
  have X4l := X4.lt
  have E4c := E4.cell
  have E4f := E4.frozen
  have E4l := E4.lt
  have Y4c := Y4.cell
  have Y4f := Y4.frozen
  have Y4l := Y4.lt
  go_wp2_with (fail)
  refine calls_at (fun V5 hV => ?_)
  have kv : Up w4 V5 := by rw [hV]; (repeat (first | with_reducible exact Up.refl _ | with_reducible refine Up.alloc ?_ _ | with_reducible refine Up.drew ?_ | refine Up.setCell ?_ (by simp <;> omega) _))
  have Xv := X4.up kv
  have Ev := E4.up kv
  have Yv := Y4.up kv
  have Zv : Blk V5 (w4.heap.size) 31 #[.int .i64 m.n, .slice (some P2) m.n c2, .slice (some Q2) m.n d2, .int .i64 s, .int .i64 a, .int .i64 l, .int .i64 x, .int .i64 y] := by rw [hV]; (repeat (first | with_reducible exact Blk.new' _ (by simp) _ _ | with_reducible refine Blk.alloc ?_ _ | with_reducible refine Blk.drew ?_ | refine Blk.far ?_ (by simp <;> omega) _))
  have Uv : Up w V5 := U4.trans kv
  have s1v := s14.up kv
  have s2v := s24.up kv
  clear hV kv X4 X4c X4f X4l E4 E4c E4f E4l Y4 Y4c Y4f Y4l U4 s14 s24
  refine (hSa.out P1 Q1 c1 d1 V5 Uv s1v).mono ?_
  rintro e w5 ⟨rfl, k5⟩
  have X5 := Xv.up k5
  have E5 := Ev.up k5
  have Y5 := Yv.up k5
  have Z5 := Zv.up k5
  have U5 := Uv.trans k5
  have s15 := s1v.up k5
  have s25 := s2v.up k5
  clear k5 Uv Xv Ev Yv Zv s1v s2v
  have X5c := X5.cell
  have X5f := X5.frozen
  have X5l := X5.lt
  have E5c := E5.cell
  have E5f := E5.frozen
  have E5l := E5.lt
  have Y5c := Y5.cell
  have Y5f := Y5.frozen
  have Y5l := Y5.lt
  have Z5c := Z5.cell
  have Z5f := Z5.frozen
  have Z5l := Z5.lt
  go_wp2_with (fail)
  refine calls_at (fun V6 hV => ?_)
  have kv : Up w5 V6 := by rw [hV]; (repeat (first | with_reducible exact Up.refl _ | with_reducible refine Up.alloc ?_ _ | with_reducible refine Up.drew ?_ | refine Up.setCell ?_ (by simp <;> omega) _))
  have Xv := X5.up kv
  have Ev := E5.up kv
  have Yv := Y5.up kv
  have Zv := Z5.up kv
  have Uv : Up w V6 := U5.trans kv
  have s1v := s15.up kv
  have s2v := s25.up kv
  clear hV kv X5 X5c X5f X5l E5 E5c E5f E5l Y5 Y5c Y5f Y5l Z5 Z5c Z5f Z5l U5 s15 s25
  refine (hSa.out P2 Q2 c2 d2 V6 Uv s2v).mono ?_
  rintro e w6 ⟨rfl, k6⟩
  have X6 := Xv.up k6
  have E6 := Ev.up k6
  have Y6 := Yv.up k6
  have Z6 := Zv.up k6
  have U6 := Uv.trans k6
  have s16 := s1v.up k6
  have s26 := s2v.up k6
  clear k6 Uv Xv Ev Yv Zv s1v s2v
  have X6c := X6.cell
  have X6f := X6.frozen
  have X6l := X6.lt
  have E6c := E6.cell
  have E6f := E6.frozen
  have E6l := E6.lt
  have Y6c := Y6.cell
  have Y6f := Y6.frozen
  have Y6l := Y6.lt
  have Z6c := Z6.cell
  have Z6f := Z6.frozen
  have Z6l := Z6.lt
  go_wp2_with (fail)
  refine calls_at (fun V7 hV => ?_)
  have kv : Up w6 V7 := by rw [hV]; (repeat (first | with_reducible exact Up.refl _ | with_reducible refine Up.alloc ?_ _ | with_reducible refine Up.drew ?_ | refine Up.setCell ?_ (by simp <;> omega) _))
  have Xv := X6.up kv
  have Ev := E6.up kv
  have Yv := Y6.up kv
  have Zv := Z6.up kv
  have Uv : Up w V7 := U6.trans kv
  have s1v := s16.up kv
  have s2v := s26.up kv
  clear hV kv X6 X6c X6f X6l E6 E6c E6f E6l Y6 Y6c Y6f Y6l Z6 Z6c Z6f Z6l U6 s16 s26
  refine (hTw.out V7 Uv).mono ?_
  rintro e w7 ⟨rfl, k7⟩
  have X7 := Xv.up k7
  have E7 := Ev.up k7
  have Y7 := Yv.up k7
  have Z7 := Zv.up k7
  have U7 := Uv.trans k7
  have s17 := s1v.up k7
  have s27 := s2v.up k7
  clear k7 Uv Xv Ev Yv Zv s1v s2v
  have X7c := X7.cell
  have X7f := X7.frozen
  have X7l := X7.lt
  have E7c := E7.cell
  have E7f := E7.frozen
  have E7l := E7.lt
  have Y7c := Y7.cell
  have Y7f := Y7.frozen
  have Y7l := Y7.lt
  have Z7c := Z7.cell
  have Z7f := Z7.frozen
  have Z7l := Z7.lt
  go_wp2_with (fail)
  refine calls_at (fun V8 hV => ?_)
  have kv : Up w7 V8 := by rw [hV]; (repeat (first | with_reducible exact Up.refl _ | with_reducible refine Up.alloc ?_ _ | with_reducible refine Up.drew ?_ | refine Up.setCell ?_ (by simp <;> omega) _))
  have Xv := X7.up kv
  have Ev := E7.up kv
  have Yv := Y7.up kv
  have Zv := Z7.up kv
  have Uv : Up w V8 := U7.trans kv
  have s1v := s17.up kv
  have s2v := s27.up kv
  clear hV kv X7 X7c X7f X7l E7 E7c E7f E7l Y7 Y7c Y7f Y7l Z7 Z7c Z7f Z7l U7 s17 s27
  refine (hOv.out V8).mono ?_
  rintro e w8 ⟨rfl, k8⟩
  have X8 := Xv.up k8
  have E8 := Ev.up k8
  have Y8 := Yv.up k8
  have Z8 := Zv.up k8
  have U8 := Uv.trans k8
  have s18 := s1v.up k8
  have s28 := s2v.up k8
  clear k8 Uv Xv Ev Yv Zv s1v s2v
  have X8c := X8.cell
  have X8f := X8.frozen
  have X8l := X8.lt
  have E8c := E8.cell
  have E8f := E8.frozen
  have E8l := E8.lt
  have Y8c := Y8.cell
  have Y8f := Y8.frozen
  have Y8l := Y8.lt
  have Z8c := Z8.cell
  have Z8f := Z8.frozen
  have Z8l := Z8.lt
  go_wp2_with (fail)
  refine calls_at (fun V9 hV => ?_)
  have kv : Up w8 V9 := by rw [hV]; (repeat (first | with_reducible exact Up.refl _ | with_reducible refine Up.alloc ?_ _ | with_reducible refine Up.drew ?_ | refine Up.setCell ?_ (by simp <;> omega) _))
  have Xv := X8.up kv
  have Ev := E8.up kv
  have Yv := Y8.up kv
  have Zv := Z8.up kv
  have Uv : Up w V9 := U8.trans kv
  have s1v := s18.up kv
  have s2v := s28.up kv
  clear hV kv X8 X8c X8f X8l E8 E8c E8f E8l Y8 Y8c Y8f Y8l Z8 Z8c Z8f Z8l U8 s18 s28
  refine (hOne.out V9 Uv).mono ?_
  rintro e w9 ⟨P4, Q4, c4, d4, rfl, s49, k9⟩
  have X9 := Xv.up k9
  have E9 := Ev.up k9
  have Y9 := Yv.up k9
  have Z9 := Zv.up k9
  have U9 := Uv.trans k9
  have s19 := s1v.up k9
  have s29 := s2v.up k9
  clear k9 Uv Xv Ev Yv Zv s1v s2v
  have X9c := X9.cell
  have X9f := X9.frozen
  have X9l := X9.lt
  have E9c := E9.cell
  have E9f := E9.frozen
  have E9l := E9.lt
  have Y9c := Y9.cell
  have Y9f := Y9.frozen
  have Y9l := Y9.lt
  have Z9c := Z9.cell
  have Z9f := Z9.frozen
  have Z9l := Z9.lt
  go_wp2_with (fail)
  refine calls_at (fun V10 hV => ?_)
  have kv : Up w9 V10 := by rw [hV]; (repeat (first | with_reducible exact Up.refl _ | with_reducible refine Up.alloc ?_ _ | with_reducible refine Up.drew ?_ | refine Up.setCell ?_ (by simp <;> omega) _))
  have Xv := X9.up kv
  have Ev := E9.up kv
  have Yv := Y9.up kv
  have Zv := Z9.up kv
  have Jv : Blk V10 (w9.heap.size) 31 #[.int .i64 m.n, .slice (some P4) m.n c4, .slice (some Q4) m.n d4, .int .i64 s, .int .i64 a, .int .i64 l, .int .i64 x, .int .i64 y] := by rw [hV]; (repeat (first | with_reducible exact Blk.new' _ (by simp) _ _ | with_reducible refine Blk.alloc ?_ _ | with_reducible refine Blk.drew ?_ | refine Blk.far ?_ (by simp <;> omega) _))
  have Uv : Up w V10 := U9.trans kv
  have s1v := s19.up kv
  have s2v := s29.up kv
  have s4v := s49.up kv
  clear hV kv X9 X9c X9f X9l E9 E9c E9f E9l Y9 Y9c Y9f Y9l Z9 Z9c Z9f Z9l U9 s19 s29 s49
  refine (hSa.out P4 Q4 c4 d4 V10 Uv s4v).mono ?_
  rintro e w10 ⟨rfl, k10⟩
  have X10 := Xv.up k10
  have E10 := Ev.up k10
  have Y10 := Yv.up k10
  have Z10 := Zv.up k10
  have J10 := Jv.up k10
  have U10 := Uv.trans k10
  have s110 := s1v.up k10
  have s210 := s2v.up k10
  have s410 := s4v.up k10
  clear k10 Uv Xv Ev Yv Zv Jv s1v s2v s4v
  have X10c := X10.cell
  have X10f := X10.frozen
  have X10l := X10.lt
  have E10c := E10.cell
  have E10f := E10.frozen
  have E10l := E10.lt
  have Y10c := Y10.cell
  have Y10f := Y10.frozen
  have Y10l := Y10.lt
  have Z10c := Z10.cell
  have Z10f := Z10.frozen
  have Z10l := Z10.lt
  have J10c := J10.cell
  have J10f := J10.frozen
  have J10l := J10.lt
  go_wp2
  go_ret
  refine ⟨rfl, ?_⟩
  (repeat (first | with_reducible exact U10 | with_reducible refine Up.alloc ?_ _ | with_reducible refine Up.drew ?_ | refine Up.setCell ?_ (by simp <;> omega) _))

set_option maxRecDepth 100000 in
set_option maxHeartbeats 8000000 in
theorem walk_none (m : Me) (P Q : Addr) (c d : Nat) (s a l x y : Int) (o f : Int) (ho : U64 o) (er : Int) (w : World) (hm : Sits w m P Q c d) (hwf : m.wf) (hn : m.n ≤ 200) (hr : rgt s a l) (hl : l = m.n) (hp : (x = 0 ∧ y = 0) ∨ (0 ≤ x ∧ x ≤ y ∧ y ≤ a)) (h0 : m.twv o = 0) (hrep : rep m s a l o f = ⟨m, a, er⟩) :
    Calls Try.prog 4 #[.agg #[.int .i64 m.n, .slice (some P) m.n c, .slice (some Q) m.n d, .int .i64 s, .int .i64 a, .int .i64 l, .int .i64 x, .int .i64 y], .agg #[.int .u64 o, .int .i64 f]] w (fun e w' => e = .returned (.bool true) ∧ Up w w') := by
  have hf := fun w => fewr_any m.n s a l x y (some P) (some Q) m.n m.n c d w
  rw [fewr_ok m s a l x y hm.1 hn hr hl hp] at hf
  have hf := Lib.hid hf
  have hAl := Lib.hid (show ∀ (W : World) (U : Up w W), Calls Try.prog 9 #[rov m.n (sl P m.n c) (sl Q m.n d) s a l x y, .slice none 0 0] W (fun e w' => ∃ P' Q' c' d', e = .returned (.tuple #[rov m.n (sl P' m.n c') (sl Q' m.n d') s a l x y, .int .i64 0, .int .i64 0]) ∧ Sits w' m P' Q' c' d' ∧ Up W w') from fun W U =>
    E.all_any m s a l x y P Q c d _ [] W (hm.up U) hwf hr hl (E.Sl.nil W) (by simp))
  have hLo := Lib.hid (show ∀ (W : World) (U : Up w W), Calls Try.prog 10 #[rov m.n (sl P m.n c) (sl Q m.n d) s a l x y, .slice none 0 0] W (fun e w' => ∃ P' Q' c' d' A' k', e = .returned (.tuple #[rov m.n (sl P' m.n c') (sl Q' m.n d') s a l x y, .slice A' 0 k', .int .i64 0]) ∧ Sits w' m P' Q' c' d' ∧ Up W w') from fun W U => by
    refine (E.logs_any m s a l x y P Q c d _ [] W (hm.up U) hwf hr hl (E.Rw.nil W) (by simp) (by simp) (by simp)).mono ?_
    rintro e w' ⟨P', Q', c', d', v, rfl, hs, hv, hu⟩
    obtain ⟨A', k', rfl, -⟩ := hv
    exact ⟨P', Q', c', d', A', k', rfl, hs, hu⟩)
  have hSa := Lib.hid (fun (P1 Q1 : Addr) (c1 d1 : Nat) (W : World) (U : Up w W) (S : Sits W m P1 Q1 c1 d1) => rosame_self m P1 Q1 P Q c1 d1 c d s a l x y W S (hm.up U))
  have hTw := Lib.hid (fun (W : World) (U : Up w W) => rtwin_any m o P Q c d W (hm.up U) ho hwf)
  have hOv := Lib.hid (fun (W : World) => rover_any m.n s a l x y o (sl P m.n c) (sl Q m.n d) W ho)
  rw [h0] at hTw
  have hOne := Lib.hid (show ∀ (W : World) (U : Up w W), Calls Try.prog 15 #[rov m.n (sl P m.n c) (sl Q m.n d) s a l x y, .agg #[.int .u64 o, .int .i64 f]] W (fun e w' => ∃ P' Q' c' d', e = .returned (.tuple #[rov m.n (sl P' m.n c') (sl Q' m.n d') s a l x y, .int .i64 er]) ∧ Sits w' m P' Q' c' d' ∧ Up W w') from fun W U => by
    have q := one_any m s a l x y o f P Q c d W (hm.up U) hwf ho hr hl
    rw [hrep] at q
    exact q)
  generalize ovb s o = ob at hOv
  generalize m.kne o = kn at hTw
  clear hm hwf hn hr hl hp ho h0 hrep
  go_enter Try.func4, Try.ntmps4
  go_wp2_with (fail)
  refine calls_at (fun V1 hV => ?_)
  have kv : Up w V1 := by rw [hV]; (repeat (first | with_reducible exact Up.refl _ | with_reducible refine Up.alloc ?_ _ | with_reducible refine Up.drew ?_ | refine Up.setCell ?_ (by simp <;> omega) _))
  have Xv : Blk V1 (w.heap.size) 31 #[.int .i64 m.n, .slice (some P) m.n c, .slice (some Q) m.n d, .int .i64 s, .int .i64 a, .int .i64 l, .int .i64 x, .int .i64 y] := by rw [hV]; (repeat (first | with_reducible exact Blk.new' _ (by simp) _ _ | with_reducible refine Blk.alloc ?_ _ | with_reducible refine Blk.drew ?_ | refine Blk.far ?_ (by simp <;> omega) _))
  have Ev : Blk V1 (w.heap.size + 1) 46 #[.int .u64 o, .int .i64 f] := by rw [hV]; (repeat (first | with_reducible exact Blk.new' _ (by simp) _ _ | with_reducible refine Blk.alloc ?_ _ | with_reducible refine Blk.drew ?_ | refine Blk.far ?_ (by simp <;> omega) _))
  have Uv : Up w V1 := kv
  clear hV kv 
  refine (shown13 _).mono ?_
  rintro e w1 ⟨rfl, k1⟩
  have X1 := Xv.up k1
  have E1 := Ev.up k1
  have U1 := Uv.trans k1
  clear k1 Uv Xv Ev 
  have X1c := X1.cell
  have X1f := X1.frozen
  have X1l := X1.lt
  have E1c := E1.cell
  have E1f := E1.frozen
  have E1l := E1.lt
  go_wp2_with (fail)
  refine calls_at (fun V2 hV => ?_)
  have kv : Up w1 V2 := by rw [hV]; (repeat (first | with_reducible exact Up.refl _ | with_reducible refine Up.alloc ?_ _ | with_reducible refine Up.drew ?_ | refine Up.setCell ?_ (by simp <;> omega) _))
  have Xv := X1.up kv
  have Ev := E1.up kv
  have Uv : Up w V2 := U1.trans kv
  clear hV kv X1 X1c X1f X1l E1 E1c E1f E1l U1
  refine (hf.out _).mono ?_
  rintro e w2 ⟨rfl, k2⟩
  have X2 := Xv.up k2
  have E2 := Ev.up k2
  have U2 := Uv.trans k2
  clear k2 Uv Xv Ev 
  have X2c := X2.cell
  have X2f := X2.frozen
  have X2l := X2.lt
  have E2c := E2.cell
  have E2f := E2.frozen
  have E2l := E2.lt
  go_wp2_with (fail)
  refine calls_at (fun V3 hV => ?_)
  have kv : Up w2 V3 := by rw [hV]; (repeat (first | with_reducible exact Up.refl _ | with_reducible refine Up.alloc ?_ _ | with_reducible refine Up.drew ?_ | refine Up.setCell ?_ (by simp <;> omega) _))
  have Xv := X2.up kv
  have Ev := E2.up kv
  have Uv : Up w V3 := U2.trans kv
  clear hV kv X2 X2c X2f X2l E2 E2c E2f E2l U2
  refine (hAl.out V3 Uv).mono ?_
  rintro e w3 ⟨P1, Q1, c1, d1, rfl, s13, k3⟩
  have X3 := Xv.up k3
  have E3 := Ev.up k3
  have U3 := Uv.trans k3
  clear k3 Uv Xv Ev 
  have X3c := X3.cell
  have X3f := X3.frozen
  have X3l := X3.lt
  have E3c := E3.cell
  have E3f := E3.frozen
  have E3l := E3.lt
  go_wp2_with (fail)
  refine calls_at (fun V4 hV => ?_)
  have kv : Up w3 V4 := by rw [hV]; (repeat (first | with_reducible exact Up.refl _ | with_reducible refine Up.alloc ?_ _ | with_reducible refine Up.drew ?_ | refine Up.setCell ?_ (by simp <;> omega) _))
  have Xv := X3.up kv
  have Ev := E3.up kv
  have Yv : Blk V4 (w3.heap.size) 31 #[.int .i64 m.n, .slice (some P1) m.n c1, .slice (some Q1) m.n d1, .int .i64 s, .int .i64 a, .int .i64 l, .int .i64 x, .int .i64 y] := by rw [hV]; (repeat (first | with_reducible exact Blk.new' _ (by simp) _ _ | with_reducible refine Blk.alloc ?_ _ | with_reducible refine Blk.drew ?_ | refine Blk.far ?_ (by simp <;> omega) _))
  have Uv : Up w V4 := U3.trans kv
  have s1v := s13.up kv
  clear hV kv X3 X3c X3f X3l E3 E3c E3f E3l U3 s13
  refine (hLo.out V4 Uv).mono ?_
  rintro e w4 ⟨P2, Q2, c2, d2, A3, k3, rfl, s24, k4⟩
  have X4 := Xv.up k4
  have E4 := Ev.up k4
  have Y4 := Yv.up k4
  have U4 := Uv.trans k4
  have s14 := s1v.up k4
  clear k4 Uv Xv Ev Yv s1v
  have X4c := X4.cell
  have X4f := X4.frozen
  have X4l := X4.lt
  have E4c := E4.cell
  have E4f := E4.frozen
  have E4l := E4.lt
  have Y4c := Y4.cell
  have Y4f := Y4.frozen
  have Y4l := Y4.lt
  go_wp2_with (fail)
  refine calls_at (fun V5 hV => ?_)
  have kv : Up w4 V5 := by rw [hV]; (repeat (first | with_reducible exact Up.refl _ | with_reducible refine Up.alloc ?_ _ | with_reducible refine Up.drew ?_ | refine Up.setCell ?_ (by simp <;> omega) _))
  have Xv := X4.up kv
  have Ev := E4.up kv
  have Yv := Y4.up kv
  have Zv : Blk V5 (w4.heap.size) 31 #[.int .i64 m.n, .slice (some P2) m.n c2, .slice (some Q2) m.n d2, .int .i64 s, .int .i64 a, .int .i64 l, .int .i64 x, .int .i64 y] := by rw [hV]; (repeat (first | with_reducible exact Blk.new' _ (by simp) _ _ | with_reducible refine Blk.alloc ?_ _ | with_reducible refine Blk.drew ?_ | refine Blk.far ?_ (by simp <;> omega) _))
  have Uv : Up w V5 := U4.trans kv
  have s1v := s14.up kv
  have s2v := s24.up kv
  clear hV kv X4 X4c X4f X4l E4 E4c E4f E4l Y4 Y4c Y4f Y4l U4 s14 s24
  refine (hSa.out P1 Q1 c1 d1 V5 Uv s1v).mono ?_
  rintro e w5 ⟨rfl, k5⟩
  have X5 := Xv.up k5
  have E5 := Ev.up k5
  have Y5 := Yv.up k5
  have Z5 := Zv.up k5
  have U5 := Uv.trans k5
  have s15 := s1v.up k5
  have s25 := s2v.up k5
  clear k5 Uv Xv Ev Yv Zv s1v s2v
  have X5c := X5.cell
  have X5f := X5.frozen
  have X5l := X5.lt
  have E5c := E5.cell
  have E5f := E5.frozen
  have E5l := E5.lt
  have Y5c := Y5.cell
  have Y5f := Y5.frozen
  have Y5l := Y5.lt
  have Z5c := Z5.cell
  have Z5f := Z5.frozen
  have Z5l := Z5.lt
  go_wp2_with (fail)
  refine calls_at (fun V6 hV => ?_)
  have kv : Up w5 V6 := by rw [hV]; (repeat (first | with_reducible exact Up.refl _ | with_reducible refine Up.alloc ?_ _ | with_reducible refine Up.drew ?_ | refine Up.setCell ?_ (by simp <;> omega) _))
  have Xv := X5.up kv
  have Ev := E5.up kv
  have Yv := Y5.up kv
  have Zv := Z5.up kv
  have Uv : Up w V6 := U5.trans kv
  have s1v := s15.up kv
  have s2v := s25.up kv
  clear hV kv X5 X5c X5f X5l E5 E5c E5f E5l Y5 Y5c Y5f Y5l Z5 Z5c Z5f Z5l U5 s15 s25
  refine (hSa.out P2 Q2 c2 d2 V6 Uv s2v).mono ?_
  rintro e w6 ⟨rfl, k6⟩
  have X6 := Xv.up k6
  have E6 := Ev.up k6
  have Y6 := Yv.up k6
  have Z6 := Zv.up k6
  have U6 := Uv.trans k6
  have s16 := s1v.up k6
  have s26 := s2v.up k6
  clear k6 Uv Xv Ev Yv Zv s1v s2v
  have X6c := X6.cell
  have X6f := X6.frozen
  have X6l := X6.lt
  have E6c := E6.cell
  have E6f := E6.frozen
  have E6l := E6.lt
  have Y6c := Y6.cell
  have Y6f := Y6.frozen
  have Y6l := Y6.lt
  have Z6c := Z6.cell
  have Z6f := Z6.frozen
  have Z6l := Z6.lt
  go_wp2_with (fail)
  refine calls_at (fun V7 hV => ?_)
  have kv : Up w6 V7 := by rw [hV]; (repeat (first | with_reducible exact Up.refl _ | with_reducible refine Up.alloc ?_ _ | with_reducible refine Up.drew ?_ | refine Up.setCell ?_ (by simp <;> omega) _))
  have Xv := X6.up kv
  have Ev := E6.up kv
  have Yv := Y6.up kv
  have Zv := Z6.up kv
  have Uv : Up w V7 := U6.trans kv
  have s1v := s16.up kv
  have s2v := s26.up kv
  clear hV kv X6 X6c X6f X6l E6 E6c E6f E6l Y6 Y6c Y6f Y6l Z6 Z6c Z6f Z6l U6 s16 s26
  refine (hTw.out V7 Uv).mono ?_
  rintro e w7 ⟨rfl, k7⟩
  have X7 := Xv.up k7
  have E7 := Ev.up k7
  have Y7 := Yv.up k7
  have Z7 := Zv.up k7
  have U7 := Uv.trans k7
  have s17 := s1v.up k7
  have s27 := s2v.up k7
  clear k7 Uv Xv Ev Yv Zv s1v s2v
  have X7c := X7.cell
  have X7f := X7.frozen
  have X7l := X7.lt
  have E7c := E7.cell
  have E7f := E7.frozen
  have E7l := E7.lt
  have Y7c := Y7.cell
  have Y7f := Y7.frozen
  have Y7l := Y7.lt
  have Z7c := Z7.cell
  have Z7f := Z7.frozen
  have Z7l := Z7.lt
  go_wp2_with (fail)
  refine calls_at (fun V8 hV => ?_)
  have kv : Up w7 V8 := by rw [hV]; (repeat (first | with_reducible exact Up.refl _ | with_reducible refine Up.alloc ?_ _ | with_reducible refine Up.drew ?_ | refine Up.setCell ?_ (by simp <;> omega) _))
  have Xv := X7.up kv
  have Ev := E7.up kv
  have Yv := Y7.up kv
  have Zv := Z7.up kv
  have Uv : Up w V8 := U7.trans kv
  have s1v := s17.up kv
  have s2v := s27.up kv
  clear hV kv X7 X7c X7f X7l E7 E7c E7f E7l Y7 Y7c Y7f Y7l Z7 Z7c Z7f Z7l U7 s17 s27
  refine (hOv.out V8).mono ?_
  rintro e w8 ⟨rfl, k8⟩
  have X8 := Xv.up k8
  have E8 := Ev.up k8
  have Y8 := Yv.up k8
  have Z8 := Zv.up k8
  have U8 := Uv.trans k8
  have s18 := s1v.up k8
  have s28 := s2v.up k8
  clear k8 Uv Xv Ev Yv Zv s1v s2v
  have X8c := X8.cell
  have X8f := X8.frozen
  have X8l := X8.lt
  have E8c := E8.cell
  have E8f := E8.frozen
  have E8l := E8.lt
  have Y8c := Y8.cell
  have Y8f := Y8.frozen
  have Y8l := Y8.lt
  have Z8c := Z8.cell
  have Z8f := Z8.frozen
  have Z8l := Z8.lt
  go_wp2_with (fail)
  refine calls_at (fun V9 hV => ?_)
  have kv : Up w8 V9 := by rw [hV]; (repeat (first | with_reducible exact Up.refl _ | with_reducible refine Up.alloc ?_ _ | with_reducible refine Up.drew ?_ | refine Up.setCell ?_ (by simp <;> omega) _))
  have Xv := X8.up kv
  have Ev := E8.up kv
  have Yv := Y8.up kv
  have Zv := Z8.up kv
  have Uv : Up w V9 := U8.trans kv
  have s1v := s18.up kv
  have s2v := s28.up kv
  clear hV kv X8 X8c X8f X8l E8 E8c E8f E8l Y8 Y8c Y8f Y8l Z8 Z8c Z8f Z8l U8 s18 s28
  refine (hOne.out V9 Uv).mono ?_
  rintro e w9 ⟨P4, Q4, c4, d4, rfl, s49, k9⟩
  have X9 := Xv.up k9
  have E9 := Ev.up k9
  have Y9 := Yv.up k9
  have Z9 := Zv.up k9
  have U9 := Uv.trans k9
  have s19 := s1v.up k9
  have s29 := s2v.up k9
  clear k9 Uv Xv Ev Yv Zv s1v s2v
  have X9c := X9.cell
  have X9f := X9.frozen
  have X9l := X9.lt
  have E9c := E9.cell
  have E9f := E9.frozen
  have E9l := E9.lt
  have Y9c := Y9.cell
  have Y9f := Y9.frozen
  have Y9l := Y9.lt
  have Z9c := Z9.cell
  have Z9f := Z9.frozen
  have Z9l := Z9.lt
  go_wp2_with (fail)
  refine calls_at (fun V10 hV => ?_)
  have kv : Up w9 V10 := by rw [hV]; (repeat (first | with_reducible exact Up.refl _ | with_reducible refine Up.alloc ?_ _ | with_reducible refine Up.drew ?_ | refine Up.setCell ?_ (by simp <;> omega) _))
  have Xv := X9.up kv
  have Ev := E9.up kv
  have Yv := Y9.up kv
  have Zv := Z9.up kv
  have Jv : Blk V10 (w9.heap.size) 31 #[.int .i64 m.n, .slice (some P4) m.n c4, .slice (some Q4) m.n d4, .int .i64 s, .int .i64 a, .int .i64 l, .int .i64 x, .int .i64 y] := by rw [hV]; (repeat (first | with_reducible exact Blk.new' _ (by simp) _ _ | with_reducible refine Blk.alloc ?_ _ | with_reducible refine Blk.drew ?_ | refine Blk.far ?_ (by simp <;> omega) _))
  have Uv : Up w V10 := U9.trans kv
  have s1v := s19.up kv
  have s2v := s29.up kv
  have s4v := s49.up kv
  clear hV kv X9 X9c X9f X9l E9 E9c E9f E9l Y9 Y9c Y9f Y9l Z9 Z9c Z9f Z9l U9 s19 s29 s49
  refine (hSa.out P4 Q4 c4 d4 V10 Uv s4v).mono ?_
  rintro e w10 ⟨rfl, k10⟩
  have X10 := Xv.up k10
  have E10 := Ev.up k10
  have Y10 := Yv.up k10
  have Z10 := Zv.up k10
  have J10 := Jv.up k10
  have U10 := Uv.trans k10
  have s110 := s1v.up k10
  have s210 := s2v.up k10
  have s410 := s4v.up k10
  clear k10 Uv Xv Ev Yv Zv Jv s1v s2v s4v
  have X10c := X10.cell
  have X10f := X10.frozen
  have X10l := X10.lt
  have E10c := E10.cell
  have E10f := E10.frozen
  have E10l := E10.lt
  have Y10c := Y10.cell
  have Y10f := Y10.frozen
  have Y10l := Y10.lt
  have Z10c := Z10.cell
  have Z10f := Z10.frozen
  have Z10l := Z10.lt
  have J10c := J10.cell
  have J10f := J10.frozen
  have J10l := J10.lt
  go_wp2
  go_ret
  refine ⟨rfl, ?_⟩
  (repeat (first | with_reducible exact U10 | with_reducible refine Up.alloc ?_ _ | with_reducible refine Up.drew ?_ | refine Up.setCell ?_ (by simp <;> omega) _))

theorem rep_same {m : Me} {s a l o f : Int} (h : ovb s o = true ∨ m.twv o = 0) : ∃ er, rep m s a l o f = ⟨m, a, er⟩ := by
  unfold rep
  split
  · exact ⟨_, rfl⟩
  · split
    · exact ⟨_, rfl⟩
    · split
      · exact ⟨_, rfl⟩
      · rename_i h1 h2
        rcases h with q | q
        · exact absurd q h1
        · exact absurd q h2
theorem walk_yes (m : Me) (P Q : Addr) (c d : Nat) (s a l x y : Int) (o f : Int) (ho : U64 o) (w : World) (hm : Sits w m P Q c d) (hwf : m.wf) (hn : m.n ≤ 200) (hr : rgt s a l) (hl : l = m.n) (hp : (x = 0 ∧ y = 0) ∨ (0 ≤ x ∧ x ≤ y ∧ y ≤ a)) :
    Calls Try.prog 4 #[.agg #[.int .i64 m.n, .slice (some P) m.n c, .slice (some Q) m.n d, .int .i64 s, .int .i64 a, .int .i64 l, .int .i64 x, .int .i64 y], .agg #[.int .u64 o, .int .i64 f]] w (fun e w' => e = .returned (.bool true) ∧ Up w w') := by
  by_cases h0 : m.twv o = 0
  · obtain ⟨er, he⟩ := rep_same (f := f) (a := a) (l := l) (s := s) (Or.inr h0)
    exact walk_none m P Q c d s a l x y o f ho er w hm hwf hn hr hl hp h0 he
  · by_cases h1 : ovb s o = true
    · obtain ⟨er, he⟩ := rep_same (m := m) (f := f) (a := a) (l := l) (Or.inl h1)
      exact walk_over m P Q c d s a l x y o f ho er w hm hwf hn hr hl hp h0 h1 he
    · exact walk_up m P Q c d s a l x y o f ho w hm hwf hn hr hl hp h0 (by simpa using h1)

theorem walk (N : Int) (A0 A1 : Option Addr) (n0 n1 c0 c1 : Nat) (s a l x y : Int) (xs ys : List Int) (o f : Int) (w : World) (hx : SlOk w A0 n0 c0 xs) (hy : SlOk w A1 n1 c1 ys)(ho : U64 o) :
    Calls Try.prog 4 #[.agg #[.int .i64 N, .slice A0 n0 c0, .slice A1 n1 c1, .int .i64 s, .int .i64 a, .int .i64 l, .int .i64 x, .int .i64 y], .agg #[.int .u64 o, .int .i64 f]] w (fun e w' => e = .returned (.bool true) ∧ Up w w') := by
  cases hfew : fewr N n0 n1 s a l x y
  · exact walk_no N A0 A1 n0 n1 c0 c1 s a l x y o f hfew w
  · obtain ⟨rfl, rfl, h16, h200, hr, hl, hp⟩ := fewr_is hfew
    obtain ⟨P, Q, rfl, rfl, hm⟩ := sits_of hx hy h16 (by omega)
    have hwf := sits_wf hx hy
    exact walk_yes ⟨n0, xs, ys⟩ P Q c0 c1 s a l x y o f ho w hm hwf h200 hr hl hp 

theorem own : ownKnob Try.prog.godebug = none := by kernel_rfl
set_option maxRecDepth 100000 in
theorem lifted (os : Os) (started : os.Started) (H : Type) (enc : TypeId × Value → H) :
    ReturnsInHanded {} Try.checked os 4 .any (Rows.replayNoneSpec.pre6 enc Try.prog Try.f4 Rows.replayNoneRow.domain false) (Rows.replayNoneSpec.post enc Try.prog Try.f4 false true false false) := by
  refine returnsInHanded_of_change (C := Try.checked) own started (by kernel_rfl) Try.func4
    (ChangeSpec.witness6 (enc := enc) (C := Try.checked) false ⟨#[], #[.agg #[.int .i64 0, .slice none 0 0, .slice none 0 0, .int .i64 0, .int .i64 0, .int .i64 0, .int .i64 0, .int .i64 0], .agg #[.int .u64 0, .int .i64 0]], []⟩ 8 (by kernel_rfl) (by kernel_rfl) (by kernel_rfl) (by kernel_rfl)) ?_
  intro W base args ds gs before hval0 hW hcnd _
  have hval : ∀ (j : Nat) t v, Try.f4.params[j]? = some t → args[j]? = some v → Value.okWide Try.prog W .any base t v := hval0
  have hW' := hW
  obtain ⟨p, q, hA0, hV, rfl, hfz, hnd⟩ := hW
  have hA : DataW.TrodAll enc Try.prog W 0 (fun _ => true) true Try.f4.params.toList args.toList ds p := hA0
  rw [Try.params4] at hA hval
  obtain ⟨v0, vs0, d0, ds0, p0, q0, hargs, rfl, rfl, h0, r0⟩ := trodAll_cons hA
  obtain ⟨v1, vs1, d1, ds1, p1, q1, rfl, rfl, rfl, h1, r1⟩ := trodAll_cons r0
  obtain ⟨rfl, rfl, rfl⟩ := trodAll_nil r1
  obtain rfl : args = #[v0, v1] := by cases args; simp_all
  obtain ⟨rfl, rfl⟩ := trodVars_none hV
  have h0k := h0
  obtain ⟨N, A0, A1, n0, n1, c0, c1, xs, ys, s, a, l, x, y, rfl, hN, hx, hy, hs, ha, hl, hxx, hyy⟩ := room_open (hval 0 31 v0 rfl rfl) h0
  have h1k := h1
  obtain ⟨z1, rfl, u1⟩ := E.ent_at (hval 1 46 v1 rfl rfl) h1
  clear hA0 hval0
  simp only [List.append_nil, List.nil_append] at hW'
  refine (walk N A0 A1 n0 n1 c0 c1 s a l x y xs ys z1.1 z1.2 W hx hy u1.1).mono fun e W' ⟨he, hg⟩ => ?_
  subst he
  exact ⟨_, rfl, post_below (pa := p0 ++ p1) (pv := []) hW' (fun _ _ _ => (trodAll_cons_mk (shut_bool Try.underlying4 _) trodAll_mk0))
    (fun sp hsp => by
      have t := (trodAll_cons_mk (trod_keeps (sp := sp) (by kernel_rfl) (of_decide_eq_true (by kernel_rfl)) h0k hg (fun x hx => hW'.lt x (by simp [hx])) (fun x hx => hsp x (by simp [hx]))) (trodAll_cons_mk (trod_keeps (sp := sp) (by kernel_rfl) (of_decide_eq_true (by kernel_rfl)) h1k hg (fun x hx => hW'.lt x (by simp [hx])) (fun x hx => hsp x (by simp [hx]))) trodAll_mk0))
      simp only [List.append_nil, List.nil_append] at t
      exact t) (fun _ _ => rfl) (by simp)
    hg (ok_one (by kernel_rfl) rfl (okWide_bool_mk Try.underlying4 _))⟩

set_option maxRecDepth 100000 in
theorem over : Rows.replayNoneRow.holds Try.pinned (OpenSpec.ofChange Rows.replayNoneSpec) :=
  OpenClaim.holds_of_wide 4 Try.f4 rfl rfl rfl rfl rfl rfl rfl ⟨rfl, rfl, rfl, rfl, rfl⟩ rfl rfl rfl rfl rfl (by kernel_rfl) Try.func4 (by kernel_rfl)
    (of_decide_eq_true (by kernel_rfl)) (by unfold Func.isWrapper; first | (rw [if_pos (by decide +kernel)]; kernel_rfl) | (rw [if_neg (by decide +kernel)]; exact ⟨rfl, rfl⟩))
    (fun os started H enc _ => lifted os started H enc)

theorem proved : Rows.ReplayNoneSaid :=
  over
#print axioms proved
end Go.Proofs.Ytgcpkgogjcgfbaa.LReplayNone
