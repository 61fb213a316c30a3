/- The statement StackReal is proved for every input, from contracts of the functions that it calls; no condition is added. -/
import Derived.Test.YtpbbbgcafphplaaSk10
namespace Go.Proofs.Ytpbbbgcafphplaa.LStackReal
open Go.Joins Go.ChangeShapes Go.Shelf Go.Maps Go.WideShapes Go.ChangeAt Go.RowKit Go.Deep
set_option linter.unusedVariables false
set_option linter.unusedSimpArgs false

set_option maxRecDepth 100000 in
set_option maxHeartbeats 4000000 in
theorem walk_no (v : Value) (xs : List Int) (h : Int) (w : World) (hx : Sl w v xs) (he : gte xs h = 5) (hv : gtv xs h = 0) (hr : rle xs h = 5) :
    Calls Try.prog 9 #[v, .int .i64 h] w (fun e w' => e = .returned (.bool true) ∧ Up w w') := by
  have hg := fun w' (k : Up w w') => get_any v xs h w' (hx.up k)
  have hl := fun w' (k : Up w w') => real_any v xs h w' (hx.up k)
  rw [he, hv] at hg
  rw [hr, hv] at hl
  have hg := Lib.hid hg
  have hl := Lib.hid hl
  clear he hr
  obtain ⟨A, c, rfl, -⟩ := hx
  generalize xs.length = n at *
  go_enter Try.func9, Try.ntmps9
  have U0 : Up w w := Up.refl w
  go_wp2_with (fail)
  refine (shown_any _).mono ?_
  rintro e w1 ⟨rfl, k1⟩
  have U1 := U0.trans k1
  clear k1
  go_wp2_with (fail)
  refine (hg.out _ U1).mono ?_
  rintro e w2 ⟨rfl, k2⟩
  have U2 := U1.trans k2
  clear k2
  go_wp2_with (fail)
  refine (hl.out _ U2).mono ?_
  rintro e w3 ⟨rfl, k3⟩
  have U3 := U2.trans k3
  clear k3
  go_wp2
  go_ret
  exact ⟨rfl, U3⟩

set_option maxRecDepth 100000 in
set_option maxHeartbeats 4000000 in
theorem walk_nil (v : Value) (xs : List Int) (h : Int) (w : World) (hx : Sl w v xs) (he : gte xs h = 0) (hv : gtv xs h = 0) (hr : rle xs h = 6) :
    Calls Try.prog 9 #[v, .int .i64 h] w (fun e w' => e = .returned (.bool true) ∧ Up w w') := by
  have hg := fun w' (k : Up w w') => get_any v xs h w' (hx.up k)
  have hl := fun w' (k : Up w w') => real_any v xs h w' (hx.up k)
  rw [he, hv] at hg
  rw [hr, hv] at hl
  have hg := Lib.hid hg
  have hl := Lib.hid hl
  clear he hr
  obtain ⟨A, c, rfl, -⟩ := hx
  generalize xs.length = n at *
  go_enter Try.func9, Try.ntmps9
  have U0 : Up w w := Up.refl w
  go_wp2_with (fail)
  refine (shown_any _).mono ?_
  rintro e w1 ⟨rfl, k1⟩
  have U1 := U0.trans k1
  clear k1
  go_wp2_with (fail)
  refine (hg.out _ U1).mono ?_
  rintro e w2 ⟨rfl, k2⟩
  have U2 := U1.trans k2
  clear k2
  go_wp2_with (fail)
  refine (hl.out _ U2).mono ?_
  rintro e w3 ⟨rfl, k3⟩
  have U3 := U2.trans k3
  clear k3
  go_wp2
  go_ret
  exact ⟨rfl, U3⟩

set_option maxRecDepth 100000 in
set_option maxHeartbeats 4000000 in
theorem walk_is (v : Value) (xs : List Int) (h : Int) (w : World) (hx : Sl w v xs) (he : gte xs h = 0) (hv : gtv xs h ≠ 0) (hr : rle xs h = 0) :
    Calls Try.prog 9 #[v, .int .i64 h] w (fun e w' => e = .returned (.bool true) ∧ Up w w') := by
  have hg := fun w' (k : Up w w') => get_any v xs h w' (hx.up k)
  have hl := fun w' (k : Up w w') => real_any v xs h w' (hx.up k)
  rw [he] at hg
  rw [hr] at hl
  have hb : (gtv xs h == 0) = false := beq_eq_false_iff_ne.2 hv
  have hb2 : (gtv xs h != 0) = true := bne_iff_ne.2 hv
  clear hv
  generalize gtv xs h = b at *
  have hg := Lib.hid hg
  have hl := Lib.hid hl
  clear he hr
  obtain ⟨A, c, rfl, -⟩ := hx
  generalize xs.length = n at *
  go_enter Try.func9, Try.ntmps9
  have U0 : Up w w := Up.refl w
  go_wp2_with (fail)
  refine (shown_any _).mono ?_
  rintro e w1 ⟨rfl, k1⟩
  have U1 := U0.trans k1
  clear k1
  go_wp2_with (fail)
  refine (hg.out _ U1).mono ?_
  rintro e w2 ⟨rfl, k2⟩
  have U2 := U1.trans k2
  clear k2
  go_wp2_with (fail)
  refine (hl.out _ U2).mono ?_
  rintro e w3 ⟨rfl, k3⟩
  have U3 := U2.trans k3
  clear k3
  go_wp2
  go_ret
  exact ⟨rfl, U3⟩

theorem walk (v : Value) (xs : List Int) (h : Int) (w : World) (hx : Sl w v xs) : Calls Try.prog 9 #[v, .int .i64 h] w (fun e w' => e = .returned (.bool true) ∧ Up w w') := by
  by_cases he : gte xs h = 0
  · by_cases hv : gtv xs h = 0
    · exact walk_nil v xs h w hx he hv (by unfold rle; rw [if_pos he, if_pos hv])
    · exact walk_is v xs h w hx he hv (by unfold rle; rw [if_pos he, if_neg hv])
  · have k : ¬ (0 ≤ h ∧ h < xs.length) := fun q => he (if_pos q)
    exact walk_no v xs h w hx (if_neg k) (if_neg k) (by unfold rle; rw [if_neg he])

theorem own : ownKnob Try.prog.godebug = none := by kernel_rfl
set_option maxRecDepth 100000 in
theorem lifted (os : Os) (started : os.Started) (H : Type) (enc : TypeId × Value → H) :
    ReturnsInHanded {} Try.checked os 9 .any (Rows.stackRealSpec.pre6 enc Try.prog Try.f9 Rows.stackRealRow.domain false) (Rows.stackRealSpec.post enc Try.prog Try.f9 false true false false) := by
  refine returnsInHanded_of_change (C := Try.checked) own started (by kernel_rfl) Try.func9
    (ChangeSpec.witness6 (enc := enc) (C := Try.checked) false ⟨#[], #[.slice none 0 0, .int .i64 0], []⟩ 8 (by kernel_rfl) (by kernel_rfl) (by kernel_rfl) (by kernel_rfl)) ?_
  intro W base args ds gs before hval0 hW hcnd _
  have hval : ∀ (j : Nat) t v, Try.f9.params[j]? = some t → args[j]? = some v → Value.okWide Try.prog W .any base t v := hval0
  have hW' := hW
  obtain ⟨p, q, hA0, hV, rfl, hfz, hnd⟩ := hW
  have hA : DataW.TrodAll enc Try.prog W 0 (fun _ => true) true Try.f9.params.toList args.toList ds p := hA0
  rw [Try.params9] at hA hval
  obtain ⟨v0, vs0, d0, ds0, p0, q0, hargs, rfl, rfl, h0, r0⟩ := trodAll_cons hA
  obtain ⟨v1, vs1, d1, ds1, p1, q1, rfl, rfl, rfl, h1, r1⟩ := trodAll_cons r0
  obtain ⟨rfl, rfl, rfl⟩ := trodAll_nil r1
  obtain rfl : args = #[v0, v1] := by cases args; simp_all
  obtain ⟨rfl, rfl⟩ := trodVars_none hV
  have h0k := h0
  obtain ⟨xs0, s0, u0, b0, y0⟩ := words_at (hval 0 22 v0 rfl rfl) h0
  obtain ⟨a1, rfl, rfl, rfl, w1⟩ := open_int Try.underlying3 (hval 1 3 v1 rfl rfl) h1
  clear hA0 hval0
  simp only [List.append_nil, List.nil_append] at hW'
  refine (walk v0 xs0 a1 W s0).mono fun e W' ⟨he, hg⟩ => ?_
  subst he
  exact ⟨_, rfl, post_below (pa := p0) (pv := []) hW' (fun _ _ _ => (trodAll_cons_mk (shut_bool Try.underlying4 _) trodAll_mk0))
    (fun sp hsp => by
      have t := (trodAll_cons_mk (trod_keeps (sp := sp) (by kernel_rfl) (of_decide_eq_true (by kernel_rfl)) h0k hg (fun x hx => hW'.lt x (by simp [hx])) (fun x hx => hsp x (by simp [hx]))) (trodAll_cons_mk (shut_int Try.underlying3 w1) trodAll_mk0))
      simp only [List.append_nil, List.nil_append] at t
      exact t) (fun _ _ => rfl) (by simp)
    hg (ok_one (by kernel_rfl) rfl (okWide_bool_mk Try.underlying4 _))⟩

set_option maxRecDepth 100000 in
theorem over : Rows.stackRealRow.holds Try.pinned (OpenSpec.ofChange Rows.stackRealSpec) :=
  OpenClaim.holds_of_wide 9 Try.f9 rfl rfl rfl rfl rfl rfl rfl ⟨rfl, rfl, rfl, rfl, rfl⟩ rfl rfl rfl rfl rfl (by kernel_rfl) Try.func9 (by kernel_rfl)
    (of_decide_eq_true (by kernel_rfl)) (by unfold Func.isWrapper; first | (rw [if_pos (by decide +kernel)]; kernel_rfl) | (rw [if_neg (by decide +kernel)]; exact ⟨rfl, rfl⟩))
    (fun os started H enc _ => lifted os started H enc)

theorem proved : Rows.StackRealSaid :=
  over
#print axioms proved
end Go.Proofs.Ytpbbbgcafphplaa.LStackReal
