/- The statement TwinRight is proved for every input, from contracts of the functions that it calls; no condition is added. -/
import Derived.Test.YtmjjgaldbnhdfaaTw8
namespace Go.Proofs.Ytmjjgaldbnhdfaa.LTwinRight
open Go.Joins Go.ChangeShapes Go.WideShapes Go.ChangeAt Go.RowKit Go.Deep
set_option linter.unusedVariables false
set_option linter.unusedSimpArgs false

set_option maxRecDepth 100000 in
set_option maxHeartbeats 8000000 in
theorem walk_no (N : Int) (A0 A1 : Option Addr) (n0 n1 c0 c1 : Nat) (s a l x y : Int) (LA : Option Addr) (Ln Lc : Nat) (hfew : fewr N n0 n1 s a l x y = false) (w : World) :
    Calls Try.prog 6 #[.agg #[.int .i64 N, .slice A0 n0 c0, .slice A1 n1 c1, .int .i64 s, .int .i64 a, .int .i64 l, .int .i64 x, .int .i64 y], .slice LA Ln Lc] w (fun e w' => e = .returned (.bool true) ∧ Up w w') := by
  have hf := fun w => fewr_any N s a l x y A0 A1 n0 n1 c0 c1 w
  rw [hfew] at hf
  have hf := Lib.hid hf
  go_enter Try.func6, Try.ntmps6
  go_wp2_with (fail)
  refine calls_at (fun V1 hV => ?_)
  have kv : Up w V1 := by rw [hV]; (repeat (first | with_reducible exact Up.refl _ | with_reducible refine Up.alloc ?_ _ | with_reducible refine Up.drew ?_ | refine Up.setCell ?_ (by simp <;> omega) _))
  have Xv : Blk V1 (w.heap.size) 31 #[.int .i64 N, .slice A0 n0 c0, .slice A1 n1 c1, .int .i64 s, .int .i64 a, .int .i64 l, .int .i64 x, .int .i64 y] := by rw [hV]; (repeat (first | with_reducible exact Blk.new' _ (by simp) _ _ | with_reducible refine Blk.alloc ?_ _ | with_reducible refine Blk.drew ?_ | refine Blk.far ?_ (by simp <;> omega) _))
  have Uv : Up w V1 := kv
  clear hV kv 
  refine (shown11 _).mono ?_
  rintro e w1 ⟨rfl, k1⟩
  have X1 := Xv.up k1
  have U1 := Uv.trans k1
  clear k1 Uv Xv 
  have X1c := X1.cell
  have X1f := X1.frozen
  have X1l := X1.lt
  go_wp2_with (fail)
  refine calls_at (fun V2 hV => ?_)
  have kv : Up w1 V2 := by rw [hV]; (repeat (first | with_reducible exact Up.refl _ | with_reducible refine Up.alloc ?_ _ | with_reducible refine Up.drew ?_ | refine Up.setCell ?_ (by simp <;> omega) _))
  have Xv := X1.up kv
  have Uv : Up w V2 := U1.trans kv
  clear hV kv X1 X1c X1f X1l U1
  refine (hf.out _).mono ?_
  rintro e w2 ⟨rfl, k2⟩
  have X2 := Xv.up k2
  have U2 := Uv.trans k2
  clear k2 Uv Xv 
  have X2c := X2.cell
  have X2f := X2.frozen
  have X2l := X2.lt
  go_wp2
  go_ret
  refine ⟨rfl, ?_⟩
  (repeat (first | with_reducible exact U2 | with_reducible refine Up.alloc ?_ _ | with_reducible refine Up.drew ?_ | refine Up.setCell ?_ (by simp <;> omega) _))

set_option maxRecDepth 100000 in
set_option maxHeartbeats 8000000 in
theorem walk_long (m : Me) (P Q : Addr) (c d : Nat) (s a l x y : Int) (LA : Option Addr) (Ln Lc : Nat) (w : World) (hm : Sits w m P Q c d) (hwf : m.wf) (hn : m.n ≤ 200) (hr : rgt s a l) (hl : l = m.n) (hp : (x = 0 ∧ y = 0) ∨ (0 ≤ x ∧ x ≤ y ∧ y ≤ a)) (hk : 40 < Ln) :
    Calls Try.prog 6 #[.agg #[.int .i64 m.n, .slice (some P) m.n c, .slice (some Q) m.n d, .int .i64 s, .int .i64 a, .int .i64 l, .int .i64 x, .int .i64 y], .slice LA Ln Lc] w (fun e w' => e = .returned (.bool true) ∧ Up w w') := by
  have hf := fun w => fewr_any m.n s a l x y (some P) (some Q) m.n m.n c d w
  rw [fewr_ok m s a l x y hm.1 hn hr hl hp] at hf
  have hf := Lib.hid hf
  have d0 : decide ((40 : Int) < Ln) = true := decide_eq_true (by omega)
  clear hm hwf hn hr hl hp hk
  go_enter Try.func6, Try.ntmps6
  go_wp2_with (fail)
  refine calls_at (fun V1 hV => ?_)
  have kv : Up w V1 := by rw [hV]; (repeat (first | with_reducible exact Up.refl _ | with_reducible refine Up.alloc ?_ _ | with_reducible refine Up.drew ?_ | refine Up.setCell ?_ (by simp <;> omega) _))
  have Xv : Blk V1 (w.heap.size) 31 #[.int .i64 m.n, .slice (some P) m.n c, .slice (some Q) m.n d, .int .i64 s, .int .i64 a, .int .i64 l, .int .i64 x, .int .i64 y] := by rw [hV]; (repeat (first | with_reducible exact Blk.new' _ (by simp) _ _ | with_reducible refine Blk.alloc ?_ _ | with_reducible refine Blk.drew ?_ | refine Blk.far ?_ (by simp <;> omega) _))
  have Uv : Up w V1 := kv
  clear hV kv 
  refine (shown11 _).mono ?_
  rintro e w1 ⟨rfl, k1⟩
  have X1 := Xv.up k1
  have U1 := Uv.trans k1
  clear k1 Uv Xv 
  have X1c := X1.cell
  have X1f := X1.frozen
  have X1l := X1.lt
  go_wp2_with (fail)
  refine calls_at (fun V2 hV => ?_)
  have kv : Up w1 V2 := by rw [hV]; (repeat (first | with_reducible exact Up.refl _ | with_reducible refine Up.alloc ?_ _ | with_reducible refine Up.drew ?_ | refine Up.setCell ?_ (by simp <;> omega) _))
  have Xv := X1.up kv
  have Uv : Up w V2 := U1.trans kv
  clear hV kv X1 X1c X1f X1l U1
  refine (hf.out _).mono ?_
  rintro e w2 ⟨rfl, k2⟩
  have X2 := Xv.up k2
  have U2 := Uv.trans k2
  clear k2 Uv Xv 
  have X2c := X2.cell
  have X2f := X2.frozen
  have X2l := X2.lt
  go_wp2
  go_ret
  refine ⟨rfl, ?_⟩
  (repeat (first | with_reducible exact U2 | with_reducible refine Up.alloc ?_ _ | with_reducible refine Up.drew ?_ | refine Up.setCell ?_ (by simp <;> omega) _))

set_option maxRecDepth 100000 in
set_option maxHeartbeats 8000000 in
theorem walk_all (m : Me) (P Q : Addr) (c d : Nat) (s a l x y : Int) (LA : Option Addr) (Ln Lc : Nat) (L : List Int) (w : World) (hm : Sits w m P Q c d) (hwf : m.wf) (hn : m.n ≤ 200) (hr : rgt s a l) (hl : l = m.n) (hp : (x = 0 ∧ y = 0) ∨ (0 ≤ x ∧ x ≤ y ∧ y ≤ a)) (hL : SlOk w LA Ln Lc L) (hk : Ln ≤ 40) :
    Calls Try.prog 6 #[.agg #[.int .i64 m.n, .slice (some P) m.n c, .slice (some Q) m.n d, .int .i64 s, .int .i64 a, .int .i64 l, .int .i64 x, .int .i64 y], .slice LA Ln Lc] w (fun e w' => e = .returned (.bool true) ∧ Up w w') := by
  have hf := fun w => fewr_any m.n s a l x y (some P) (some Q) m.n m.n c d w
  rw [fewr_ok m s a l x y hm.1 hn hr hl hp] at hf
  have hf := Lib.hid hf
  have d0 : decide ((40 : Int) < Ln) = false := decide_eq_false (by omega)
  have hla := eac_la (s := s) (l := l) L m a hm.1 hwf hr hl
  have hE := Lib.hid (fun (W : World) (U : Up w W) => each_any m s a l x y P Q c d LA Ln Lc L W (hm.up U) hwf hr hl (hL.1.up U) hL.2.2.2 (by omega))
  generalize eac s l L m a = z at hE hla
  have hla2 := hla.rg hr hl
  have d1 : decide (a ≤ z.a) = true := decide_eq_true hla.le
  have hrob : rob z.m.n z.m.n z.m.n s z.a l x y = true := rob_ok z.m s z.a l x y hla.ok hla2.1 hla2.2 (by have := hla.le; omega)
  have hR := Lib.hid (show ∀ (P Q : Addr) (c d : Nat) (w : World), Calls Try.prog 17 #[rov z.m.n (.slice (some P) z.m.n c) (.slice (some Q) z.m.n d) s z.a l x y] w fun e w' => e = .returned (.bool true) ∧ Up w w' from fun P Q c d w => by have h := roright_any z.m.n s z.a l x y (some P) (some Q) z.m.n z.m.n c d w; rwa [hrob] at h)
  have et := fun w => eq_buf x y x y w
  rw [tsame_self] at et
  unfold EaPost at hE
  clear hm hwf hn hr hl hp hk hL hrob hla hla2
  go_enter Try.func6, Try.ntmps6
  go_wp2_with (fail)
  refine calls_at (fun V1 hV => ?_)
  have kv : Up w V1 := by rw [hV]; (repeat (first | with_reducible exact Up.refl _ | with_reducible refine Up.alloc ?_ _ | with_reducible refine Up.drew ?_ | refine Up.setCell ?_ (by simp <;> omega) _))
  have Xv : Blk V1 (w.heap.size) 31 #[.int .i64 m.n, .slice (some P) m.n c, .slice (some Q) m.n d, .int .i64 s, .int .i64 a, .int .i64 l, .int .i64 x, .int .i64 y] := by rw [hV]; (repeat (first | with_reducible exact Blk.new' _ (by simp) _ _ | with_reducible refine Blk.alloc ?_ _ | with_reducible refine Blk.drew ?_ | refine Blk.far ?_ (by simp <;> omega) _))
  have Uv : Up w V1 := kv
  clear hV kv 
  refine (shown11 _).mono ?_
  rintro e w1 ⟨rfl, k1⟩
  have X1 := Xv.up k1
  have U1 := Uv.trans k1
  clear k1 Uv Xv 
  have X1c := X1.cell
  have X1f := X1.frozen
  have X1l := X1.lt
  go_wp2_with (fail)
  refine calls_at (fun V2 hV => ?_)
  have kv : Up w1 V2 := by rw [hV]; (repeat (first | with_reducible exact Up.refl _ | with_reducible refine Up.alloc ?_ _ | with_reducible refine Up.drew ?_ | refine Up.setCell ?_ (by simp <;> omega) _))
  have Xv := X1.up kv
  have Uv : Up w V2 := U1.trans kv
  clear hV kv X1 X1c X1f X1l U1
  refine (hf.out _).mono ?_
  rintro e w2 ⟨rfl, k2⟩
  have X2 := Xv.up k2
  have U2 := Uv.trans k2
  clear k2 Uv Xv 
  have X2c := X2.cell
  have X2f := X2.frozen
  have X2l := X2.lt
  go_wp2_with (fail)
  refine calls_at (fun V3 hV => ?_)
  have kv : Up w2 V3 := by rw [hV]; (repeat (first | with_reducible exact Up.refl _ | with_reducible refine Up.alloc ?_ _ | with_reducible refine Up.drew ?_ | refine Up.setCell ?_ (by simp <;> omega) _))
  have Xv := X2.up kv
  have Uv : Up w V3 := U2.trans kv
  clear hV kv X2 X2c X2f X2l U2
  refine (hE.out V3 Uv).mono ?_
  rintro e w3 ⟨P1, Q1, c1, d1, A1, n1, k1_, rfl, s13, k3, -⟩
  have X3 := Xv.up k3
  have U3 := Uv.trans k3
  clear k3 Uv Xv 
  have X3c := X3.cell
  have X3f := X3.frozen
  have X3l := X3.lt
  go_wp2_with (fail)
  refine calls_at (fun V4 hV => ?_)
  have kv : Up w3 V4 := by rw [hV]; (repeat (first | with_reducible exact Up.refl _ | with_reducible refine Up.alloc ?_ _ | with_reducible refine Up.drew ?_ | refine Up.setCell ?_ (by simp <;> omega) _))
  have Xv := X3.up kv
  have Yv : Blk V4 (w3.heap.size) 31 #[.int .i64 z.m.n, .slice (some P1) z.m.n c1, .slice (some Q1) z.m.n d1, .int .i64 s, .int .i64 z.a, .int .i64 l, .int .i64 x, .int .i64 y] := by rw [hV]; (repeat (first | with_reducible exact Blk.new' _ (by simp) _ _ | with_reducible refine Blk.alloc ?_ _ | with_reducible refine Blk.drew ?_ | refine Blk.far ?_ (by simp <;> omega) _))
  have Uv : Up w V4 := U3.trans kv
  have s1v := s13.up kv
  clear hV kv X3 X3c X3f X3l U3 s13
  refine (hR.out P1 Q1 c1 d1 _).mono ?_
  rintro e w4 ⟨rfl, k4⟩
  have X4 := Xv.up k4
  have Y4 := Yv.up k4
  have U4 := Uv.trans k4
  have s14 := s1v.up k4
  clear k4 Uv Xv Yv s1v
  have X4c := X4.cell
  have X4f := X4.frozen
  have X4l := X4.lt
  have Y4c := Y4.cell
  have Y4f := Y4.frozen
  have Y4l := Y4.lt
  go_wp2
  go_ret
  refine ⟨rfl, ?_⟩
  (repeat (first | with_reducible exact U4 | with_reducible refine Up.alloc ?_ _ | with_reducible refine Up.drew ?_ | refine Up.setCell ?_ (by simp <;> omega) _))

theorem walk_yes (m : Me) (P Q : Addr) (c d : Nat) (s a l x y : Int) (LA : Option Addr) (Ln Lc : Nat) (L : List Int) (w : World) (hm : Sits w m P Q c d) (hwf : m.wf) (hn : m.n ≤ 200) (hr : rgt s a l) (hl : l = m.n) (hp : (x = 0 ∧ y = 0) ∨ (0 ≤ x ∧ x ≤ y ∧ y ≤ a)) (hL : SlOk w LA Ln Lc L) :
    Calls Try.prog 6 #[.agg #[.int .i64 m.n, .slice (some P) m.n c, .slice (some Q) m.n d, .int .i64 s, .int .i64 a, .int .i64 l, .int .i64 x, .int .i64 y], .slice LA Ln Lc] w (fun e w' => e = .returned (.bool true) ∧ Up w w') := by
  by_cases hk : Ln ≤ 40
  · exact walk_all m P Q c d s a l x y LA Ln Lc L w hm hwf hn hr hl hp hL hk
  · exact walk_long m P Q c d s a l x y LA Ln Lc w hm hwf hn hr hl hp (by omega)

theorem walk (N : Int) (A0 A1 : Option Addr) (n0 n1 c0 c1 : Nat) (s a l x y : Int) (xs ys : List Int) (LA : Option Addr) (Ln Lc : Nat) (L : List Int) (w : World) (hx : SlOk w A0 n0 c0 xs) (hy : SlOk w A1 n1 c1 ys) (hL : SlOk w LA Ln Lc L) :
    Calls Try.prog 6 #[.agg #[.int .i64 N, .slice A0 n0 c0, .slice A1 n1 c1, .int .i64 s, .int .i64 a, .int .i64 l, .int .i64 x, .int .i64 y], .slice LA Ln Lc] w (fun e w' => e = .returned (.bool true) ∧ Up w w') := by
  cases hfew : fewr N n0 n1 s a l x y
  · exact walk_no N A0 A1 n0 n1 c0 c1 s a l x y LA Ln Lc hfew w
  · obtain ⟨rfl, rfl, h16, h200, hr, hl, hp⟩ := fewr_is hfew
    obtain ⟨P, Q, rfl, rfl, hm⟩ := sits_of hx hy h16 (by omega)
    have hwf := sits_wf hx hy
    exact walk_yes ⟨n0, xs, ys⟩ P Q c0 c1 s a l x y LA Ln Lc L w hm hwf h200 hr hl hp hL

theorem own : ownKnob Try.prog.godebug = none := by kernel_rfl
set_option maxRecDepth 100000 in
theorem lifted (os : Os) (started : os.Started) (H : Type) (enc : TypeId × Value → H) :
    ReturnsInHanded {} Try.checked os 6 .any (Rows.twinRightSpec.pre6 enc Try.prog Try.f6 Rows.twinRightRow.domain false) (Rows.twinRightSpec.post enc Try.prog Try.f6 false true false false) := by
  refine returnsInHanded_of_change (C := Try.checked) own started (by kernel_rfl) Try.func6
    (ChangeSpec.witness6 (enc := enc) (C := Try.checked) false ⟨#[], #[.agg #[.int .i64 0, .slice none 0 0, .slice none 0 0, .int .i64 0, .int .i64 0, .int .i64 0, .int .i64 0, .int .i64 0], .slice none 0 0], []⟩ 8 (by kernel_rfl) (by kernel_rfl) (by kernel_rfl) (by kernel_rfl)) ?_
  intro W base args ds gs before hval0 hW hcnd _
  have hval : ∀ (j : Nat) t v, Try.f6.params[j]? = some t → args[j]? = some v → Value.okWide Try.prog W .any base t v := hval0
  have hW' := hW
  obtain ⟨p, q, hA0, hV, rfl, hfz, hnd⟩ := hW
  have hA : DataW.TrodAll enc Try.prog W 0 (fun _ => true) true Try.f6.params.toList args.toList ds p := hA0
  rw [Try.params6] at hA hval
  obtain ⟨v0, vs0, d0, ds0, p0, q0, hargs, rfl, rfl, h0, r0⟩ := trodAll_cons hA
  obtain ⟨v1, vs1, d1, ds1, p1, q1, rfl, rfl, rfl, h1, r1⟩ := trodAll_cons r0
  obtain ⟨rfl, rfl, rfl⟩ := trodAll_nil r1
  obtain rfl : args = #[v0, v1] := by cases args; simp_all
  obtain ⟨rfl, rfl⟩ := trodVars_none hV
  have h0k := h0
  obtain ⟨N, A0, A1, n0, n1, c0, c1, xs, ys, s, a, l, x, y, rfl, hN, hx, hy, hs, ha, hl, hxx, hyy⟩ := room_open (hval 0 31 v0 rfl rfl) h0
  have h1k := h1
  obtain ⟨LA, Ln, Lc, L, rfl, hL⟩ := words_at (hval 1 22 v1 rfl rfl) h1
  clear hA0 hval0
  simp only [List.append_nil, List.nil_append] at hW'
  refine (walk N A0 A1 n0 n1 c0 c1 s a l x y xs ys LA Ln Lc L W hx hy hL).mono fun e W' ⟨he, hg⟩ => ?_
  subst he
  exact ⟨_, rfl, post_below (pa := p0 ++ p1) (pv := []) hW' (fun _ _ _ => (trodAll_cons_mk (shut_bool Try.underlying4 _) trodAll_mk0))
    (fun sp hsp => by
      have t := (trodAll_cons_mk (trod_keeps (sp := sp) (by kernel_rfl) (of_decide_eq_true (by kernel_rfl)) h0k hg (fun x hx => hW'.lt x (by simp [hx])) (fun x hx => hsp x (by simp [hx]))) (trodAll_cons_mk (trod_keeps (sp := sp) (by kernel_rfl) (of_decide_eq_true (by kernel_rfl)) h1k hg (fun x hx => hW'.lt x (by simp [hx])) (fun x hx => hsp x (by simp [hx]))) trodAll_mk0))
      simp only [List.append_nil, List.nil_append] at t
      exact t) (fun _ _ => rfl) (by simp)
    hg (ok_one (by kernel_rfl) rfl (okWide_bool_mk Try.underlying4 _))⟩

set_option maxRecDepth 100000 in
theorem over : Rows.twinRightRow.holds Try.pinned (OpenSpec.ofChange Rows.twinRightSpec) :=
  OpenClaim.holds_of_wide 6 Try.f6 rfl rfl rfl rfl rfl rfl rfl ⟨rfl, rfl, rfl, rfl, rfl⟩ rfl rfl rfl rfl rfl (by kernel_rfl) Try.func6 (by kernel_rfl)
    (of_decide_eq_true (by kernel_rfl)) (by unfold Func.isWrapper; first | (rw [if_pos (by decide +kernel)]; kernel_rfl) | (rw [if_neg (by decide +kernel)]; exact ⟨rfl, rfl⟩))
    (fun os started H enc _ => lifted os started H enc)

theorem proved : Rows.TwinRightSaid :=
  over
#print axioms proved
end Go.Proofs.Ytmjjgaldbnhdfaa.LTwinRight
