/- The statement SizeBack is proved for every input, from contracts of the functions that it calls; no condition is added. -/
import Derived.Test.YtnfanedkbfopkaaRows
import Derived.Test.YtnfanedkbfopkaaSzW
import Derived.WalkKit
import Derived.ProofKit
import Derived.OpenShut
namespace Go.Proofs.Ytnfanedkbfopkaa.LSizeBack
open Go.ChangeShapes Go.WideShapes Go.ChangeAt Go.RowKit
set_option linter.unusedVariables false      -- a walk need not use every 'w<i>' (that an integer argument fits its kind)

theorem own : ownKnob Try.prog.godebug = none := by kernel_rfl

/-! ### STEP 1: THE WALK: the Go text returns true. 'Grown w w'': the world has at most new blocks (Derived/RowKit3.lean). Part the cases AHEAD of 'go_enter' where a test parts the walk; take each callee by a contract of your own. -/
set_option maxHeartbeats 4000000 in
theorem walk (a0 : Int) (a1 : Int) (a2 : Int) (w0 : (Lit.int .i64 a0).wf = true) (w1 : (Lit.int .i64 a1).wf = true) (w2 : (Lit.int .u64 a2).wf = true) (w : World) :
    Calls Try.prog 4 #[.int .i64 a0, .int .i64 a1, .int .u64 a2] w fun e w' => e = .returned (.bool true) ∧ Grown w w' := by
  have h2 := nn_of_wf w2
  have k2 := hi_of_wf w2
  clear w0 w1 w2
  have z0 := Lib.hid (show ∀ w, Calls Try.prog 15 #[.int .u64 0] w fun e w' => e = .returned (.tuple #[.int .i64 0, .int .i64 0, .bool false]) ∧ Grown w w' from fun w => where_no 0 (-1) 0 (by decide) (by decide) rfl rfl (by decide) (by decide) w)
  obtain ⟨u, v, b, hw, hb⟩ := where_told a2 h2 k2
  have HW := Lib.hid hw
  have HB := Lib.hid hb
  clear hw hb h2 k2
  by_cases h : spot a0 a1
  · obtain ⟨hs, h0, h1⟩ := h
    have kd : a1 / 4294967296 = 0 := by omega
    rcases hs with rfl | rfl
    · have A := Lib.hid (fun w => addr_ok 0 a1 ⟨by decide, h0, h1⟩ w)
      have B := Lib.hid (show ∀ w, Calls Try.prog 15 #[.int .u64 (adr 0 a1)] w fun e w' => e = .returned (.tuple #[.int .i64 0, .int .i64 a1, .bool true]) ∧ Grown w w' from fun w => where_0 (adr 0 a1) a1 (by unfold adr; omega) (by unfold adr; omega) (by unfold adr; omega) (by unfold adr; omega) w)
      cases b
      · have hg := Grown.refl w
        go_enter Try.func4, Try.ntmps4
        go_wp2_with (fail)
        refine (shown_any _).mono ?_
        rintro e w' ⟨rfl, rfl⟩
        go_wp2_with (fail)
        refine (A.out _).mono ?_
        rintro e w' ⟨rfl, rfl⟩
        go_wp2_with (fail)
        refine (B.out _).mono ?_
        rintro e w' ⟨rfl, hg'⟩
        replace hg := grown_trans hg hg'
        clear hg'
        go_wp2_with (fail)
        refine (HW.out _).mono ?_
        rintro e w' ⟨rfl, hg'⟩
        replace hg := grown_trans hg hg'
        clear hg'
        go_wp2
        go_ret
        exact ⟨rfl, hg⟩
      · have HA := Lib.hid (HB.out rfl)
        have hg := Grown.refl w
        go_enter Try.func4, Try.ntmps4
        go_wp2_with (fail)
        refine (shown_any _).mono ?_
        rintro e w' ⟨rfl, rfl⟩
        go_wp2_with (fail)
        refine (A.out _).mono ?_
        rintro e w' ⟨rfl, rfl⟩
        go_wp2_with (fail)
        refine (B.out _).mono ?_
        rintro e w' ⟨rfl, hg'⟩
        replace hg := grown_trans hg hg'
        clear hg'
        go_wp2_with (fail)
        refine (HW.out _).mono ?_
        rintro e w' ⟨rfl, hg'⟩
        replace hg := grown_trans hg hg'
        clear hg'
        go_wp2_with (fail)
        refine (HA.out _).mono ?_
        rintro e w' ⟨rfl, rfl⟩
        go_wp2
        go_ret
        exact ⟨rfl, hg⟩
    · have A := Lib.hid (fun w => addr_ok 1 a1 ⟨by decide, h0, h1⟩ w)
      have B := Lib.hid (show ∀ w, Calls Try.prog 15 #[.int .u64 (adr 1 a1)] w fun e w' => e = .returned (.tuple #[.int .i64 1, .int .i64 a1, .bool true]) ∧ Grown w w' from fun w => where_1 (adr 1 a1) a1 (by unfold adr; omega) (by unfold adr; omega) (by unfold adr; omega) (by unfold adr; omega) w)
      cases b
      · have hg := Grown.refl w
        go_enter Try.func4, Try.ntmps4
        go_wp2_with (fail)
        refine (shown_any _).mono ?_
        rintro e w' ⟨rfl, rfl⟩
        go_wp2_with (fail)
        refine (A.out _).mono ?_
        rintro e w' ⟨rfl, rfl⟩
        go_wp2_with (fail)
        refine (B.out _).mono ?_
        rintro e w' ⟨rfl, hg'⟩
        replace hg := grown_trans hg hg'
        clear hg'
        go_wp2_with (fail)
        refine (HW.out _).mono ?_
        rintro e w' ⟨rfl, hg'⟩
        replace hg := grown_trans hg hg'
        clear hg'
        go_wp2
        go_ret
        exact ⟨rfl, hg⟩
      · have HA := Lib.hid (HB.out rfl)
        have hg := Grown.refl w
        go_enter Try.func4, Try.ntmps4
        go_wp2_with (fail)
        refine (shown_any _).mono ?_
        rintro e w' ⟨rfl, rfl⟩
        go_wp2_with (fail)
        refine (A.out _).mono ?_
        rintro e w' ⟨rfl, rfl⟩
        go_wp2_with (fail)
        refine (B.out _).mono ?_
        rintro e w' ⟨rfl, hg'⟩
        replace hg := grown_trans hg hg'
        clear hg'
        go_wp2_with (fail)
        refine (HW.out _).mono ?_
        rintro e w' ⟨rfl, hg'⟩
        replace hg := grown_trans hg hg'
        clear hg'
        go_wp2_with (fail)
        refine (HA.out _).mono ?_
        rintro e w' ⟨rfl, rfl⟩
        go_wp2
        go_ret
        exact ⟨rfl, hg⟩
  have A := Lib.hid (fun w => addr_no a0 a1 h w)
  unfold spot at h
  by_cases c0 : a0 ≠ 0 ∧ a0 ≠ 1
  · obtain ⟨c0, c1⟩ := c0
    clear h
    have e0 : (a0 == 0) = false := beq_eq_false_iff_ne.mpr c0
    have e1 : (a0 == 1) = false := beq_eq_false_iff_ne.mpr c1
    cases b
    · have hg := Grown.refl w
      go_enter Try.func4, Try.ntmps4
      go_wp2_with (fail)
      refine (shown_any _).mono ?_
      rintro e w' ⟨rfl, rfl⟩
      go_wp2_with (fail)
      refine (A.out _).mono ?_
      rintro e w' ⟨rfl, rfl⟩
      go_wp2_with (fail)
      refine (z0.out _).mono ?_
      rintro e w' ⟨rfl, hg'⟩
      replace hg := grown_trans hg hg'
      clear hg'
      go_wp2_with (fail)
      refine (HW.out _).mono ?_
      rintro e w' ⟨rfl, hg'⟩
      replace hg := grown_trans hg hg'
      clear hg'
      go_wp2
      go_ret
      exact ⟨rfl, hg⟩
    · have HA := Lib.hid (HB.out rfl)
      have hg := Grown.refl w
      go_enter Try.func4, Try.ntmps4
      go_wp2_with (fail)
      refine (shown_any _).mono ?_
      rintro e w' ⟨rfl, rfl⟩
      go_wp2_with (fail)
      refine (A.out _).mono ?_
      rintro e w' ⟨rfl, rfl⟩
      go_wp2_with (fail)
      refine (z0.out _).mono ?_
      rintro e w' ⟨rfl, hg'⟩
      replace hg := grown_trans hg hg'
      clear hg'
      go_wp2_with (fail)
      refine (HW.out _).mono ?_
      rintro e w' ⟨rfl, hg'⟩
      replace hg := grown_trans hg hg'
      clear hg'
      go_wp2_with (fail)
      refine (HA.out _).mono ?_
      rintro e w' ⟨rfl, rfl⟩
      go_wp2
      go_ret
      exact ⟨rfl, hg⟩
  have hs : a0 = 0 ∨ a0 = 1 := by omega
  by_cases c2 : a1 < 0
  · clear h c0
    rcases hs with rfl | rfl
    · skip
      cases b
      · have hg := Grown.refl w
        go_enter Try.func4, Try.ntmps4
        go_wp2_with (fail)
        refine (shown_any _).mono ?_
        rintro e w' ⟨rfl, rfl⟩
        go_wp2_with (fail)
        refine (A.out _).mono ?_
        rintro e w' ⟨rfl, rfl⟩
        go_wp2_with (fail)
        refine (z0.out _).mono ?_
        rintro e w' ⟨rfl, hg'⟩
        replace hg := grown_trans hg hg'
        clear hg'
        go_wp2_with (fail)
        refine (HW.out _).mono ?_
        rintro e w' ⟨rfl, hg'⟩
        replace hg := grown_trans hg hg'
        clear hg'
        go_wp2
        go_ret
        exact ⟨rfl, hg⟩
      · have HA := Lib.hid (HB.out rfl)
        have hg := Grown.refl w
        go_enter Try.func4, Try.ntmps4
        go_wp2_with (fail)
        refine (shown_any _).mono ?_
        rintro e w' ⟨rfl, rfl⟩
        go_wp2_with (fail)
        refine (A.out _).mono ?_
        rintro e w' ⟨rfl, rfl⟩
        go_wp2_with (fail)
        refine (z0.out _).mono ?_
        rintro e w' ⟨rfl, hg'⟩
        replace hg := grown_trans hg hg'
        clear hg'
        go_wp2_with (fail)
        refine (HW.out _).mono ?_
        rintro e w' ⟨rfl, hg'⟩
        replace hg := grown_trans hg hg'
        clear hg'
        go_wp2_with (fail)
        refine (HA.out _).mono ?_
        rintro e w' ⟨rfl, rfl⟩
        go_wp2
        go_ret
        exact ⟨rfl, hg⟩
    · skip
      cases b
      · have hg := Grown.refl w
        go_enter Try.func4, Try.ntmps4
        go_wp2_with (fail)
        refine (shown_any _).mono ?_
        rintro e w' ⟨rfl, rfl⟩
        go_wp2_with (fail)
        refine (A.out _).mono ?_
        rintro e w' ⟨rfl, rfl⟩
        go_wp2_with (fail)
        refine (z0.out _).mono ?_
        rintro e w' ⟨rfl, hg'⟩
        replace hg := grown_trans hg hg'
        clear hg'
        go_wp2_with (fail)
        refine (HW.out _).mono ?_
        rintro e w' ⟨rfl, hg'⟩
        replace hg := grown_trans hg hg'
        clear hg'
        go_wp2
        go_ret
        exact ⟨rfl, hg⟩
      · have HA := Lib.hid (HB.out rfl)
        have hg := Grown.refl w
        go_enter Try.func4, Try.ntmps4
        go_wp2_with (fail)
        refine (shown_any _).mono ?_
        rintro e w' ⟨rfl, rfl⟩
        go_wp2_with (fail)
        refine (A.out _).mono ?_
        rintro e w' ⟨rfl, rfl⟩
        go_wp2_with (fail)
        refine (z0.out _).mono ?_
        rintro e w' ⟨rfl, hg'⟩
        replace hg := grown_trans hg hg'
        clear hg'
        go_wp2_with (fail)
        refine (HW.out _).mono ?_
        rintro e w' ⟨rfl, hg'⟩
        replace hg := grown_trans hg hg'
        clear hg'
        go_wp2_with (fail)
        refine (HA.out _).mono ?_
        rintro e w' ⟨rfl, rfl⟩
        go_wp2
        go_ret
        exact ⟨rfl, hg⟩
  · have c3 : 4294967296 ≤ a1 := by omega
    have c4 : 0 ≤ a1 := by omega
    clear h c0
    rcases hs with rfl | rfl
    · skip
      cases b
      · have hg := Grown.refl w
        go_enter Try.func4, Try.ntmps4
        go_wp2_with (fail)
        refine (shown_any _).mono ?_
        rintro e w' ⟨rfl, rfl⟩
        go_wp2_with (fail)
        refine (A.out _).mono ?_
        rintro e w' ⟨rfl, rfl⟩
        go_wp2_with (fail)
        refine (z0.out _).mono ?_
        rintro e w' ⟨rfl, hg'⟩
        replace hg := grown_trans hg hg'
        clear hg'
        go_wp2_with (fail)
        refine (HW.out _).mono ?_
        rintro e w' ⟨rfl, hg'⟩
        replace hg := grown_trans hg hg'
        clear hg'
        go_wp2
        go_ret
        exact ⟨rfl, hg⟩
      · have HA := Lib.hid (HB.out rfl)
        have hg := Grown.refl w
        go_enter Try.func4, Try.ntmps4
        go_wp2_with (fail)
        refine (shown_any _).mono ?_
        rintro e w' ⟨rfl, rfl⟩
        go_wp2_with (fail)
        refine (A.out _).mono ?_
        rintro e w' ⟨rfl, rfl⟩
        go_wp2_with (fail)
        refine (z0.out _).mono ?_
        rintro e w' ⟨rfl, hg'⟩
        replace hg := grown_trans hg hg'
        clear hg'
        go_wp2_with (fail)
        refine (HW.out _).mono ?_
        rintro e w' ⟨rfl, hg'⟩
        replace hg := grown_trans hg hg'
        clear hg'
        go_wp2_with (fail)
        refine (HA.out _).mono ?_
        rintro e w' ⟨rfl, rfl⟩
        go_wp2
        go_ret
        exact ⟨rfl, hg⟩
    · skip
      cases b
      · have hg := Grown.refl w
        go_enter Try.func4, Try.ntmps4
        go_wp2_with (fail)
        refine (shown_any _).mono ?_
        rintro e w' ⟨rfl, rfl⟩
        go_wp2_with (fail)
        refine (A.out _).mono ?_
        rintro e w' ⟨rfl, rfl⟩
        go_wp2_with (fail)
        refine (z0.out _).mono ?_
        rintro e w' ⟨rfl, hg'⟩
        replace hg := grown_trans hg hg'
        clear hg'
        go_wp2_with (fail)
        refine (HW.out _).mono ?_
        rintro e w' ⟨rfl, hg'⟩
        replace hg := grown_trans hg hg'
        clear hg'
        go_wp2
        go_ret
        exact ⟨rfl, hg⟩
      · have HA := Lib.hid (HB.out rfl)
        have hg := Grown.refl w
        go_enter Try.func4, Try.ntmps4
        go_wp2_with (fail)
        refine (shown_any _).mono ?_
        rintro e w' ⟨rfl, rfl⟩
        go_wp2_with (fail)
        refine (A.out _).mono ?_
        rintro e w' ⟨rfl, rfl⟩
        go_wp2_with (fail)
        refine (z0.out _).mono ?_
        rintro e w' ⟨rfl, hg'⟩
        replace hg := grown_trans hg hg'
        clear hg'
        go_wp2_with (fail)
        refine (HW.out _).mono ?_
        rintro e w' ⟨rfl, hg'⟩
        replace hg := grown_trans hg hg'
        clear hg'
        go_wp2_with (fail)
        refine (HA.out _).mono ?_
        rintro e w' ⟨rfl, rfl⟩
        go_wp2
        go_ret
        exact ⟨rfl, hg⟩

/-! ### THE ROW's STEP: WRITTEN OUT: LEAVE IT -/
set_option maxRecDepth 100000 in
theorem lifted (os : Os) (started : os.Started) (H : Type) (enc : TypeId × Value → H) :
    ReturnsInHanded {} Try.checked os 4 .any (Rows.sizeBackSpec.pre6 enc Try.prog Try.f4 Rows.sizeBackRow.domain false) (Rows.sizeBackSpec.post enc Try.prog Try.f4 false true false false) := by
  refine returnsInHanded_of_change (C := Try.checked) own started (by kernel_rfl) Try.func4
    (ChangeSpec.witness6 (enc := enc) (C := Try.checked) false ⟨#[], #[.int .i64 0, .int .i64 0, .int .u64 0], []⟩ 8 (by kernel_rfl) (by kernel_rfl) (by kernel_rfl) (by kernel_rfl)) ?_
  intro W base args ds gs before hval0 hW hcnd _
  have hval : ∀ (j : Nat) t v, Try.f4.params[j]? = some t → args[j]? = some v → Value.okWide Try.prog W .any base t v := hval0
  have hW' := hW
  obtain ⟨p, q, hA0, hV, rfl, hfz, hnd⟩ := hW
  have hA : DataW.TrodAll enc Try.prog W 0 (fun _ => true) true Try.f4.params.toList args.toList ds p := hA0
  rw [Try.params4] at hA hval
  obtain ⟨v0, vs0, d0, ds0, p0, q0, hargs, rfl, rfl, h0, r0⟩ := trodAll_cons hA
  obtain ⟨v1, vs1, d1, ds1, p1, q1, rfl, rfl, rfl, h1, r1⟩ := trodAll_cons r0
  obtain ⟨v2, vs2, d2, ds2, p2, q2, rfl, rfl, rfl, h2, r2⟩ := trodAll_cons r1
  obtain ⟨rfl, rfl, rfl⟩ := trodAll_nil r2
  obtain rfl : args = #[v0, v1, v2] := by cases args; simp_all
  obtain ⟨rfl, rfl⟩ := trodVars_none hV
  obtain ⟨a0, rfl, rfl, rfl, w0⟩ := open_int Try.underlying3 (hval 0 3 v0 rfl rfl) h0
  obtain ⟨a1, rfl, rfl, rfl, w1⟩ := open_int Try.underlying3 (hval 1 3 v1 rfl rfl) h1
  obtain ⟨a2, rfl, rfl, rfl, w2⟩ := open_int Try.underlying22 (hval 2 22 v2 rfl rfl) h2
  clear hA0 hval0
  simp only [List.append_nil] at hW'
  refine (walk a0 a1 a2 w0 w1 w2 W).mono fun e W' ⟨he, hg⟩ => ?_
  subst he
  exact ⟨_, rfl, post_of_same (pa := []) (pv := []) hW' (fun _ _ _ => (trodAll_cons_mk (shut_bool Try.underlying4 _) trodAll_mk0)) (fun sp _ => (trodAll_cons_mk (shut_int Try.underlying3 w0) (trodAll_cons_mk (shut_int Try.underlying3 w1) (trodAll_cons_mk (shut_int Try.underlying22 w2) trodAll_mk0)))) (fun _ _ => rfl) rfl
    (hg.frame _) hg.2.1 (ok_one (by kernel_rfl) rfl (okWide_bool_mk Try.underlying4 _))⟩

theorem over : Rows.sizeBackRow.holds Try.pinned (OpenSpec.ofChange Rows.sizeBackSpec) :=
  OpenClaim.holds_of_wide 4 Try.f4 rfl rfl rfl rfl rfl rfl rfl ⟨rfl, rfl, rfl, rfl, rfl⟩ rfl rfl rfl rfl rfl (by kernel_rfl) Try.func4 (by kernel_rfl)
    (of_decide_eq_true (by kernel_rfl)) (by unfold Func.isWrapper; first | (rw [if_pos (by decide +kernel)]; kernel_rfl) | (rw [if_neg (by decide +kernel)]; exact ⟨rfl, rfl⟩))
    (fun os started H enc _ => lifted os started H enc)

/-- ████ THE STATEMENT ████ -/
theorem proved : Rows.SizeBackSaid :=
  over
#print axioms proved
end Go.Proofs.Ytnfanedkbfopkaa.LSizeBack
