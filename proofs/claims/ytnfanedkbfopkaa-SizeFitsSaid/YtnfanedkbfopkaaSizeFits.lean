/- The statement SizeFits is proved for every input, from contracts of the functions that it calls; no condition is added. -/
import Derived.Test.YtnfanedkbfopkaaRows
import Derived.Test.YtnfanedkbfopkaaSzW
import Derived.WalkKit
import Derived.ProofKit
import Derived.OpenShut
namespace Go.Proofs.Ytnfanedkbfopkaa.LSizeFits
open Go.ChangeShapes Go.WideShapes Go.ChangeAt Go.RowKit
set_option linter.unusedVariables false      -- a walk need not use every 'w<i>' (that an integer argument fits its kind)

theorem own : ownKnob Try.prog.godebug = none := by kernel_rfl

/-! ### STEP 1: THE WALK: the Go text returns true. 'Grown w w'': the world has at most new blocks (Derived/RowKit3.lean). Part the cases AHEAD of 'go_enter' where a test parts the walk; take each callee by a contract of your own. -/
set_option maxHeartbeats 4000000 in
theorem walk (a0 : Int) (a1 : Int) (a2 : Int) (w0 : (Lit.int .i64 a0).wf = true) (w1 : (Lit.int .i64 a1).wf = true) (w2 : (Lit.int .i64 a2).wf = true) (w : World) :
    Calls Try.prog 6 #[.int .i64 a0, .int .i64 a1, .int .i64 a2] w fun e w' => e = .returned (.bool true) ∧ Grown w w' := by
  obtain ⟨l0, u0⟩ := i64_of_wf w0
  obtain ⟨l1, u1⟩ := i64_of_wf w1
  obtain ⟨l2, u2⟩ := i64_of_wf w2
  have i0 := Lib.hid (i64_of_wf w0)
  have i1 := Lib.hid (i64_of_wf w1)
  have i2 := Lib.hid (i64_of_wf w2)
  clear w0 w1 w2
  by_cases h : fit a0 a1 a2
  · obtain ⟨h0, h1, h2⟩ := h
    have f1 := Lib.hid (show fit a0 a1 a2 from ⟨h0, h1, h2⟩)
    have k0 : a0 + a1 ≤ 9223372036854775807 := by omega
    by_cases m : a1 = 9223372036854775807
    · have hw64 : wrap64 9223372036854775808 = -9223372036854775808 := by unfold wrap64; omega
      obtain rfl : a0 = 0 := by omega
      obtain rfl : a2 = 9223372036854775807 := by omega
      subst m
      have f2 := Lib.hid (show fit 0 9223372036854775806 9223372036854775807 from ⟨by decide, by decide, by decide⟩)
      have f3 := Lib.hid (show ¬ fit 0 (-9223372036854775808) 9223372036854775807 from fun k => absurd k.2.1 (by decide))
      have hg := Grown.refl w
      go_enter Try.func6, Try.ntmps6
      go_wp2_with (fail)
      refine (shown_any _).mono ?_
      rintro e w' ⟨rfl, rfl⟩
      go_wp2_with (fail)
      refine (fits_yes 0 9223372036854775807 9223372036854775807 i2.out f1.out _).mono ?_
      rintro e w' ⟨rfl, hg'⟩
      replace hg := grown_trans hg hg'
      clear hg'
      go_wp2_with (fail)
      refine (fits_yes 0 9223372036854775806 9223372036854775807 i2.out f2.out _).mono ?_
      rintro e w' ⟨rfl, hg'⟩
      replace hg := grown_trans hg hg'
      clear hg'
      go_wp2_with (fail)
      refine (fits_no 0 (-9223372036854775808) 9223372036854775807 i0.out ⟨by decide, by decide⟩ f3.out _).mono ?_
      rintro e w' ⟨rfl, hg'⟩
      replace hg := grown_trans hg hg'
      clear hg'
      go_wp2
      go_ret
      exact ⟨rfl, hg⟩
    have m : a1 + 1 ≤ 9223372036854775807 := by omega
    have i3 := Lib.hid (show I64 (a1 + 1) from ⟨by omega, m⟩)
    by_cases z : a1 = 0
    · subst z
      by_cases e : 0 = a2 - a0
      · have f3 := Lib.hid (show ¬ fit a0 1 a2 from fun k => by have := k.2.2; omega)
        have e2 : (0 == a2 - a0) = true := beq_iff_eq.mpr e
        clear e
        have hg := Grown.refl w
        go_enter Try.func6, Try.ntmps6
        go_wp2_with (fail)
        refine (shown_any _).mono ?_
        rintro e w' ⟨rfl, rfl⟩
        go_wp2_with (fail)
        refine (fits_yes a0 0 a2 i2.out f1.out _).mono ?_
        rintro e w' ⟨rfl, hg'⟩
        replace hg := grown_trans hg hg'
        clear hg'
        go_wp2_with (fail)
        refine (fits_no a0 1 a2 i0.out ⟨by decide, by decide⟩ f3.out _).mono ?_
        rintro e w' ⟨rfl, hg'⟩
        replace hg := grown_trans hg hg'
        clear hg'
        go_wp2
        go_ret
        exact ⟨rfl, hg⟩
      · have f3 := Lib.hid (show fit a0 1 a2 from ⟨h0, by omega, by omega⟩)
        have e2 : (0 == a2 - a0) = false := beq_eq_false_iff_ne.mpr e
        clear e
        have hg := Grown.refl w
        go_enter Try.func6, Try.ntmps6
        go_wp2_with (fail)
        refine (shown_any _).mono ?_
        rintro e w' ⟨rfl, rfl⟩
        go_wp2_with (fail)
        refine (fits_yes a0 0 a2 i2.out f1.out _).mono ?_
        rintro e w' ⟨rfl, hg'⟩
        replace hg := grown_trans hg hg'
        clear hg'
        go_wp2_with (fail)
        refine (fits_yes a0 1 a2 i2.out f3.out _).mono ?_
        rintro e w' ⟨rfl, hg'⟩
        replace hg := grown_trans hg hg'
        clear hg'
        go_wp2
        go_ret
        exact ⟨rfl, hg⟩
    · have f2 := Lib.hid (show fit a0 (a1 - 1) a2 from ⟨h0, by omega, by omega⟩)
      have z1 : 0 < a1 := by omega
      by_cases e : a1 = a2 - a0
      · have f3 := Lib.hid (show ¬ fit a0 (a1 + 1) a2 from fun k => by have := k.2.2; omega)
        have e2 : (a1 == a2 - a0) = true := beq_iff_eq.mpr e
        clear e
        have hg := Grown.refl w
        go_enter Try.func6, Try.ntmps6
        go_wp2_with (fail)
        refine (shown_any _).mono ?_
        rintro e w' ⟨rfl, rfl⟩
        go_wp2_with (fail)
        refine (fits_yes a0 a1 a2 i2.out f1.out _).mono ?_
        rintro e w' ⟨rfl, hg'⟩
        replace hg := grown_trans hg hg'
        clear hg'
        go_wp2_with (fail)
        refine (fits_yes a0 (a1 - 1) a2 i2.out f2.out _).mono ?_
        rintro e w' ⟨rfl, hg'⟩
        replace hg := grown_trans hg hg'
        clear hg'
        go_wp2_with (fail)
        refine (fits_no a0 (a1 + 1) a2 i0.out i3.out f3.out _).mono ?_
        rintro e w' ⟨rfl, hg'⟩
        replace hg := grown_trans hg hg'
        clear hg'
        go_wp2
        go_ret
        exact ⟨rfl, hg⟩
      · have f3 := Lib.hid (show fit a0 (a1 + 1) a2 from ⟨h0, by omega, by omega⟩)
        have e2 : (a1 == a2 - a0) = false := beq_eq_false_iff_ne.mpr e
        clear e
        have hg := Grown.refl w
        go_enter Try.func6, Try.ntmps6
        go_wp2_with (fail)
        refine (shown_any _).mono ?_
        rintro e w' ⟨rfl, rfl⟩
        go_wp2_with (fail)
        refine (fits_yes a0 a1 a2 i2.out f1.out _).mono ?_
        rintro e w' ⟨rfl, hg'⟩
        replace hg := grown_trans hg hg'
        clear hg'
        go_wp2_with (fail)
        refine (fits_yes a0 (a1 - 1) a2 i2.out f2.out _).mono ?_
        rintro e w' ⟨rfl, hg'⟩
        replace hg := grown_trans hg hg'
        clear hg'
        go_wp2_with (fail)
        refine (fits_yes a0 (a1 + 1) a2 i2.out f3.out _).mono ?_
        rintro e w' ⟨rfl, hg'⟩
        replace hg := grown_trans hg hg'
        clear hg'
        go_wp2
        go_ret
        exact ⟨rfl, hg⟩
  have f1 := Lib.hid h
  unfold fit at h
  by_cases c0 : a0 < 0
  · clear h
    have hg := Grown.refl w
    go_enter Try.func6, Try.ntmps6
    go_wp2_with (fail)
    refine (shown_any _).mono ?_
    rintro e w' ⟨rfl, rfl⟩
    go_wp2_with (fail)
    refine (fits_no a0 a1 a2 i0.out i1.out f1.out _).mono ?_
    rintro e w' ⟨rfl, hg'⟩
    replace hg := grown_trans hg hg'
    clear hg'
    go_wp2
    go_ret
    exact ⟨rfl, hg⟩
  by_cases c1 : a1 < 0
  · clear h
    have hg := Grown.refl w
    go_enter Try.func6, Try.ntmps6
    go_wp2_with (fail)
    refine (shown_any _).mono ?_
    rintro e w' ⟨rfl, rfl⟩
    go_wp2_with (fail)
    refine (fits_no a0 a1 a2 i0.out i1.out f1.out _).mono ?_
    rintro e w' ⟨rfl, hg'⟩
    replace hg := grown_trans hg hg'
    clear hg'
    go_wp2
    go_ret
    exact ⟨rfl, hg⟩
  by_cases c2 : a2 < 0
  · clear h
    have hg := Grown.refl w
    go_enter Try.func6, Try.ntmps6
    go_wp2_with (fail)
    refine (shown_any _).mono ?_
    rintro e w' ⟨rfl, rfl⟩
    go_wp2_with (fail)
    refine (fits_no a0 a1 a2 i0.out i1.out f1.out _).mono ?_
    rintro e w' ⟨rfl, hg'⟩
    replace hg := grown_trans hg hg'
    clear hg'
    go_wp2
    go_ret
    exact ⟨rfl, hg⟩
  by_cases c3 : a2 < a0
  · clear h
    have hg := Grown.refl w
    go_enter Try.func6, Try.ntmps6
    go_wp2_with (fail)
    refine (shown_any _).mono ?_
    rintro e w' ⟨rfl, rfl⟩
    go_wp2_with (fail)
    refine (fits_no a0 a1 a2 i0.out i1.out f1.out _).mono ?_
    rintro e w' ⟨rfl, hg'⟩
    replace hg := grown_trans hg hg'
    clear hg'
    go_wp2
    go_ret
    exact ⟨rfl, hg⟩
  · have c4 : decide (a2 - a0 < a1) = true := decide_eq_true (by omega)
    clear h
    have d0 : 0 ≤ a0 := by omega
    have d1 : 0 ≤ a1 := by omega
    have d2 : 0 ≤ a2 := by omega
    have d3 : a0 ≤ a2 := by omega
    have hg := Grown.refl w
    go_enter Try.func6, Try.ntmps6
    go_wp2_with (fail)
    refine (shown_any _).mono ?_
    rintro e w' ⟨rfl, rfl⟩
    go_wp2_with (fail)
    refine (fits_no a0 a1 a2 i0.out i1.out f1.out _).mono ?_
    rintro e w' ⟨rfl, hg'⟩
    replace hg := grown_trans hg hg'
    clear hg'
    go_wp2
    go_ret
    exact ⟨rfl, hg⟩

/-! ### THE ROW's STEP: WRITTEN OUT: LEAVE IT -/
set_option maxRecDepth 100000 in
theorem lifted (os : Os) (started : os.Started) (H : Type) (enc : TypeId × Value → H) :
    ReturnsInHanded {} Try.checked os 6 .any (Rows.sizeFitsSpec.pre6 enc Try.prog Try.f6 Rows.sizeFitsRow.domain false) (Rows.sizeFitsSpec.post enc Try.prog Try.f6 false true false false) := by
  refine returnsInHanded_of_change (C := Try.checked) own started (by kernel_rfl) Try.func6
    (ChangeSpec.witness6 (enc := enc) (C := Try.checked) false ⟨#[], #[.int .i64 0, .int .i64 0, .int .i64 0], []⟩ 8 (by kernel_rfl) (by kernel_rfl) (by kernel_rfl) (by kernel_rfl)) ?_
  intro W base args ds gs before hval0 hW hcnd _
  have hval : ∀ (j : Nat) t v, Try.f6.params[j]? = some t → args[j]? = some v → Value.okWide Try.prog W .any base t v := hval0
  have hW' := hW
  obtain ⟨p, q, hA0, hV, rfl, hfz, hnd⟩ := hW
  have hA : DataW.TrodAll enc Try.prog W 0 (fun _ => true) true Try.f6.params.toList args.toList ds p := hA0
  rw [Try.params6] at hA hval
  obtain ⟨v0, vs0, d0, ds0, p0, q0, hargs, rfl, rfl, h0, r0⟩ := trodAll_cons hA
  obtain ⟨v1, vs1, d1, ds1, p1, q1, rfl, rfl, rfl, h1, r1⟩ := trodAll_cons r0
  obtain ⟨v2, vs2, d2, ds2, p2, q2, rfl, rfl, rfl, h2, r2⟩ := trodAll_cons r1
  obtain ⟨rfl, rfl, rfl⟩ := trodAll_nil r2
  obtain rfl : args = #[v0, v1, v2] := by cases args; simp_all
  obtain ⟨rfl, rfl⟩ := trodVars_none hV
  obtain ⟨a0, rfl, rfl, rfl, w0⟩ := open_int Try.underlying3 (hval 0 3 v0 rfl rfl) h0
  obtain ⟨a1, rfl, rfl, rfl, w1⟩ := open_int Try.underlying3 (hval 1 3 v1 rfl rfl) h1
  obtain ⟨a2, rfl, rfl, rfl, w2⟩ := open_int Try.underlying3 (hval 2 3 v2 rfl rfl) h2
  clear hA0 hval0
  simp only [List.append_nil] at hW'
  refine (walk a0 a1 a2 w0 w1 w2 W).mono fun e W' ⟨he, hg⟩ => ?_
  subst he
  exact ⟨_, rfl, post_of_same (pa := []) (pv := []) hW' (fun _ _ _ => (trodAll_cons_mk (shut_bool Try.underlying4 _) trodAll_mk0)) (fun sp _ => (trodAll_cons_mk (shut_int Try.underlying3 w0) (trodAll_cons_mk (shut_int Try.underlying3 w1) (trodAll_cons_mk (shut_int Try.underlying3 w2) trodAll_mk0)))) (fun _ _ => rfl) rfl
    (hg.frame _) hg.2.1 (ok_one (by kernel_rfl) rfl (okWide_bool_mk Try.underlying4 _))⟩

theorem over : Rows.sizeFitsRow.holds Try.pinned (OpenSpec.ofChange Rows.sizeFitsSpec) :=
  OpenClaim.holds_of_wide 6 Try.f6 rfl rfl rfl rfl rfl rfl rfl ⟨rfl, rfl, rfl, rfl, rfl⟩ rfl rfl rfl rfl rfl (by kernel_rfl) Try.func6 (by kernel_rfl)
    (of_decide_eq_true (by kernel_rfl)) (by unfold Func.isWrapper; first | (rw [if_pos (by decide +kernel)]; kernel_rfl) | (rw [if_neg (by decide +kernel)]; exact ⟨rfl, rfl⟩))
    (fun os started H enc _ => lifted os started H enc)

/-- ████ THE STATEMENT ████ -/
theorem proved : Rows.SizeFitsSaid :=
  over
#print axioms proved
end Go.Proofs.Ytnfanedkbfopkaa.LSizeFits
