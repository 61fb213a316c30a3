/- The statement SizeApart is proved for every input, from contracts of the functions that it calls; no condition is added. -/
import Derived.Test.YtnfanedkbfopkaaRows
import Derived.Test.YtnfanedkbfopkaaAgg
import Derived.WalkKit
import Derived.ProofKit
import Derived.OpenShut
namespace Go.Proofs.Ytnfanedkbfopkaa.LSizeApart
open Go.Joins Go.ChangeShapes Go.WideShapes Go.ChangeAt Go.RowKit Go.Deep
set_option linter.unusedVariables false

theorem own : ownKnob Try.prog.godebug = none := by kernel_rfl
theorem cells : Try.prog.cellsOf 41 = 4 := by kernel_rfl

set_option maxHeartbeats 4000000 in
theorem walk (a0 : Int) (a1 : Int) (a2 : Int) (a3 : Int) (w0 : (Lit.int .i64 a0).wf = true) (w1 : (Lit.int .i64 a1).wf = true) (w2 : (Lit.int .i64 a2).wf = true) (w3 : (Lit.int .i64 a3).wf = true) (w : World) :
    Calls Try.prog 5 #[.agg #[.int .i64 a0, .int .i64 a1, .int .i64 a2, .int .i64 a3]] w fun e w' => e = .returned (.bool true) ∧ Grown w w' := by
  clear w0 w1 w2 w3
  have T := Lib.hid (show Grown w (w.alloc (.cells #[.int .i64 a0, .int .i64 a1, .int .i64 a2, .int .i64 a3] 41)) from (Grown.refl w).alloc #[.int .i64 a0, .int .i64 a1, .int .i64 a2, .int .i64 a3] 41)
  by_cases h : spot a0 a1
  rotate_left
  · have A := Lib.hid (fun w => addr_no a0 a1 h w)
    have B := Lib.hid (fun w => addr_any a2 a3 w)
    clear h
    have hg := T.out
    go_enter Try.func5, Try.ntmps5
    go_wp2_with (fail)
    refine (shown_any _).mono ?_
    rintro e w' ⟨rfl, rfl⟩
    go_wp2_with (fail)
    refine (A.out _).mono ?_
    rintro e w' ⟨rfl, rfl⟩
    go_wp2_with (fail)
    refine (B.out _).mono ?_
    rintro e w' ⟨rfl, rfl⟩
    go_wp2
    go_ret
    exact ⟨rfl, hg⟩
  by_cases k : spot a2 a3
  rotate_left
  · have A := Lib.hid (fun w => addr_ok a0 a1 h w)
    have e := adr_ne h
    have B := Lib.hid (fun w => addr_no a2 a3 k w)
    clear h k
    have hg := T.out
    go_enter Try.func5, Try.ntmps5
    go_wp2_with (fail)
    refine (shown_any _).mono ?_
    rintro e w' ⟨rfl, rfl⟩
    go_wp2_with (fail)
    refine (A.out _).mono ?_
    rintro e w' ⟨rfl, rfl⟩
    go_wp2_with (fail)
    refine (B.out _).mono ?_
    rintro e w' ⟨rfl, rfl⟩
    go_wp2
    go_ret
    exact ⟨rfl, hg⟩
  by_cases e : a0 = a2 ∧ a1 = a3
  · have A := Lib.hid (fun w => addr_ok a0 a1 h w)
    have e0 := adr_ne h
    have e1 := adr_ne k
    have B := Lib.hid (fun w => addr_is a2 a3 (adr a0 a1) k (by rw [e.1, e.2]; rfl) w)
    obtain ⟨e2, e3⟩ := e
    have g0 : (a0 == a2) = true := beq_iff_eq.mpr e2
    have g1 : (a1 == a3) = true := beq_iff_eq.mpr e3
    clear h k e2 e3
    have hg := T.out
    go_enter Try.func5, Try.ntmps5
    go_wp2_with (fail)
    refine (shown_any _).mono ?_
    rintro e w' ⟨rfl, rfl⟩
    go_wp2_with (fail)
    refine (A.out _).mono ?_
    rintro e w' ⟨rfl, rfl⟩
    go_wp2_with (fail)
    refine (B.out _).mono ?_
    rintro e w' ⟨rfl, rfl⟩
    go_wp2
    go_ret
    exact ⟨rfl, hg⟩
  have A := Lib.hid (fun w => addr_ok a0 a1 h w)
  have e0 := adr_ne h
  have e1 := adr_ne k
  have B := Lib.hid (fun w => addr_ok a2 a3 k w)
  have g2 : (adr a0 a1 == adr a2 a3) = false := beq_eq_false_iff_ne.mpr (fun q => e (adr_inj h k q))
  by_cases e2 : a0 = a2
  · have g0 : (a0 == a2) = true := beq_iff_eq.mpr e2
    have g1 : (a1 == a3) = false := beq_eq_false_iff_ne.mpr (fun q => e ⟨e2, q⟩)
    clear h k e e2
    have hg := T.out
    go_enter Try.func5, Try.ntmps5
    go_wp2_with (fail)
    refine (shown_any _).mono ?_
    rintro e w' ⟨rfl, rfl⟩
    go_wp2_with (fail)
    refine (A.out _).mono ?_
    rintro e w' ⟨rfl, rfl⟩
    go_wp2_with (fail)
    refine (B.out _).mono ?_
    rintro e w' ⟨rfl, rfl⟩
    go_wp2
    go_ret
    exact ⟨rfl, hg⟩
  · have g0 : (a0 == a2) = false := beq_eq_false_iff_ne.mpr e2
    clear h k e e2
    have hg := T.out
    go_enter Try.func5, Try.ntmps5
    go_wp2_with (fail)
    refine (shown_any _).mono ?_
    rintro e w' ⟨rfl, rfl⟩
    go_wp2_with (fail)
    refine (A.out _).mono ?_
    rintro e w' ⟨rfl, rfl⟩
    go_wp2_with (fail)
    refine (B.out _).mono ?_
    rintro e w' ⟨rfl, rfl⟩
    go_wp2
    go_ret
    exact ⟨rfl, hg⟩

set_option maxRecDepth 100000 in
theorem lifted (os : Os) (started : os.Started) (H : Type) (enc : TypeId × Value → H) :
    ReturnsInHanded {} Try.checked os 5 .any (Rows.sizeApartSpec.pre6 enc Try.prog Try.f5 Rows.sizeApartRow.domain false) (Rows.sizeApartSpec.post enc Try.prog Try.f5 false true false false) := by
  refine returnsInHanded_of_change (C := Try.checked) own started (by kernel_rfl) Try.func5
    (ChangeSpec.witness6 (enc := enc) (C := Try.checked) false ⟨#[], #[.agg #[.int .i64 0, .int .i64 0, .int .i64 0, .int .i64 0]], []⟩ 8 (by kernel_rfl) (by kernel_rfl) (by kernel_rfl) (by kernel_rfl)) ?_
  intro W base args ds gs before hval0 hW hcnd _
  have hval : ∀ (j : Nat) t v, Try.f5.params[j]? = some t → args[j]? = some v → Value.okWide Try.prog W .any base t v := hval0
  have hW' := hW
  obtain ⟨p, q, hA0, hV, rfl, hfz, hnd⟩ := hW
  have hA : DataW.TrodAll enc Try.prog W 0 (fun _ => true) true Try.f5.params.toList args.toList ds p := hA0
  rw [Try.params5] at hA hval
  obtain ⟨v0, vs0, d0, ds0, p0, q0, hargs, rfl, rfl, h0, r0⟩ := trodAll_cons hA
  obtain ⟨rfl, rfl, rfl⟩ := trodAll_nil r0
  obtain rfl : args = #[v0] := by cases args; simp_all
  obtain ⟨rfl, rfl⟩ := trodVars_none hV
  obtain ⟨a0, a1, a2, a3, rfl, rfl, rfl, w0, w1, w2, w3⟩ := open_n4 Try.underlying41 (by kernel_rfl) cells Try.underlying3 Try.underlying3 Try.underlying3 Try.underlying3 (hval 0 41 v0 rfl rfl) h0
  clear hA0 hval0
  simp only [List.append_nil] at hW'
  refine (walk a0 a1 a2 a3 w0 w1 w2 w3 W).mono fun e W' ⟨he, hg⟩ => ?_
  subst he
  exact ⟨_, rfl, post_of_same (pa := []) (pv := []) hW' (fun _ _ _ => (trodAll_cons_mk (shut_bool Try.underlying4 _) trodAll_mk0)) (fun sp _ => (trodAll_cons_mk (shut_n4 Try.underlying41 (by kernel_rfl) cells Try.underlying3 Try.underlying3 Try.underlying3 Try.underlying3 w0 w1 w2 w3) trodAll_mk0)) (fun _ _ => rfl) rfl
    (hg.frame _) hg.2.1 (ok_one (by kernel_rfl) rfl (okWide_bool_mk Try.underlying4 _))⟩

theorem over : Rows.sizeApartRow.holds Try.pinned (OpenSpec.ofChange Rows.sizeApartSpec) :=
  OpenClaim.holds_of_wide 5 Try.f5 rfl rfl rfl rfl rfl rfl rfl ⟨rfl, rfl, rfl, rfl, rfl⟩ rfl rfl rfl rfl rfl (by kernel_rfl) Try.func5 (by kernel_rfl)
    (of_decide_eq_true (by kernel_rfl)) (by unfold Func.isWrapper; first | (rw [if_pos (by decide +kernel)]; kernel_rfl) | (rw [if_neg (by decide +kernel)]; exact ⟨rfl, rfl⟩))
    (fun os started H enc _ => lifted os started H enc)

theorem proved : Rows.SizeApartSaid :=
  over
#print axioms proved
end Go.Proofs.Ytnfanedkbfopkaa.LSizeApart
