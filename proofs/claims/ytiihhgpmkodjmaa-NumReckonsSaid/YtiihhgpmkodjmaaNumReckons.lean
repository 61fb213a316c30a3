/- The statement NumReckons is proved for every input, from contracts of the functions that it calls; no condition is added. -/
import Derived.Test.YtiihhgpmkodjmaaRows
import Derived.Test.YtiihhgpmkodjmaaAgg
import Derived.WalkKit
import Derived.ProofKit
import Derived.OpenShut
namespace Go.Proofs.Ytiihhgpmkodjmaa.LNumReckons
open Go.Joins Go.ChangeShapes Go.WideShapes Go.ChangeAt Go.RowKit Go.Deep
set_option linter.unusedVariables false

theorem own : ownKnob Try.prog.godebug = none := by kernel_rfl
theorem cells : Try.prog.cellsOf 24 = 5 := by kernel_rfl

set_option maxHeartbeats 4000000 in
theorem walk (a0 : Int) (a1 : Int) (a2 : Int) (a3 : Int) (a4 : Int) (w0 : (Lit.int .u64 a0).wf = true) (w1 : (Lit.int .u64 a1).wf = true) (w2 : (Lit.int .i64 a2).wf = true) (w3 : (Lit.int .i64 a3).wf = true) (w4 : (Lit.int .i64 a4).wf = true) (w : World) :
    Calls Try.prog 3 #[.agg #[.int .u64 a0, .int .u64 a1, .int .i64 a2, .int .i64 a3, .int .i64 a4]] w fun e w' => e = .returned (.bool true) ∧ Grown w w' := by
  have h0 := nn_of_wf w0
  have h1 := nn_of_wf w1
  have k0 := hi_of_wf w0
  have k1 := hi_of_wf w1
  obtain ⟨l4, u4⟩ := lo_of_wf w4
  clear w0 w1 w2 w3 w4
  have hg := (Grown.refl w).alloc #[.int .u64 a0, .int .u64 a1, .int .i64 a2, .int .i64 a3, .int .i64 a4] 24
  go_enter Try.func3, Try.ntmps3
  go_wp2_with (fail)
  refine (shown_any _).mono ?_
  rintro e w' ⟨rfl, hg'⟩
  replace hg := grown_trans hg hg'
  clear hg'
  go_wp2_with (fail)
  refine (parts_as (a0) (_) (_) h0 (rfl) (rfl) _).mono ?_
  rintro e w' ⟨rfl, hg'⟩
  replace hg := grown_trans hg hg'
  clear hg'
  go_wp2_with (fail)
  refine (rparts a0 h0 k0 _).mono ?_
  rintro e w' ⟨rfl, rfl⟩
  go_wp2_with (fail)
  refine (pack_as (a2) (a3) (_) (rfl) _).mono ?_
  rintro e w' ⟨rfl, rfl⟩
  go_wp2_with (fail)
  refine (rpack a2 a3 _).mono ?_
  rintro e w' ⟨rfl, rfl⟩
  go_wp2_with (fail)
  refine (norm_as (a0) (_) h0 (rfl) _).mono ?_
  rintro e w' ⟨rfl, hg'⟩
  replace hg := grown_trans hg hg'
  clear hg'
  go_wp2_with (fail)
  refine (rnorm a0 h0 _).mono ?_
  rintro e w' ⟨rfl, rfl⟩
  go_wp2_with (fail)
  refine (add_as (a0) (a1) (_) h0 h1 (rfl) _).mono ?_
  rintro e w' ⟨rfl, hg'⟩
  replace hg := grown_trans hg hg'
  clear hg'
  go_wp2_with (fail)
  refine (radd a0 a1 h0 h1 k0 k1 _).mono ?_
  rintro e w' ⟨rfl, rfl⟩
  go_wp2_with (fail)
  refine (mul_as (a0) (a1) (_) h0 h1 (rfl) _).mono ?_
  rintro e w' ⟨rfl, hg'⟩
  replace hg := grown_trans hg hg'
  clear hg'
  go_wp2_with (fail)
  refine (rmul a0 a1 h0 h1 k0 k1 _).mono ?_
  rintro e w' ⟨rfl, rfl⟩
  go_wp2_with (fail)
  refine (conj_as (a0) (_) h0 (rfl) _).mono ?_
  rintro e w' ⟨rfl, hg'⟩
  replace hg := grown_trans hg hg'
  clear hg'
  go_wp2_with (fail)
  refine (rconj a0 h0 k0 _).mono ?_
  rintro e w' ⟨rfl, rfl⟩
  go_wp2_with (fail)
  refine (pow_as (a0) (a4) (_) h0 (by omega) (rfl) _).mono ?_
  rintro e w' ⟨rfl, hg'⟩
  replace hg := grown_trans hg hg'
  clear hg'
  go_wp2_with (fail)
  refine (rpow a0 a4 h0 k0 _).mono ?_
  rintro e w' ⟨rfl, rfl⟩
  go_wp2
  go_ret
  exact ⟨rfl, hg⟩

set_option maxRecDepth 100000 in
theorem lifted (os : Os) (started : os.Started) (H : Type) (enc : TypeId × Value → H) :
    ReturnsInHanded {} Try.checked os 3 .any (Rows.numReckonsSpec.pre6 enc Try.prog Try.f3 Rows.numReckonsRow.domain false) (Rows.numReckonsSpec.post enc Try.prog Try.f3 false true false false) := by
  refine returnsInHanded_of_change (C := Try.checked) own started (by kernel_rfl) Try.func3
    (ChangeSpec.witness6 (enc := enc) (C := Try.checked) false ⟨#[], #[.agg #[.int .u64 0, .int .u64 0, .int .i64 0, .int .i64 0, .int .i64 0]], []⟩ 8 (by kernel_rfl) (by kernel_rfl) (by kernel_rfl) (by kernel_rfl)) ?_
  intro W base args ds gs before hval0 hW hcnd _
  have hval : ∀ (j : Nat) t v, Try.f3.params[j]? = some t → args[j]? = some v → Value.okWide Try.prog W .any base t v := hval0
  have hW' := hW
  obtain ⟨p, q, hA0, hV, rfl, hfz, hnd⟩ := hW
  have hA : DataW.TrodAll enc Try.prog W 0 (fun _ => true) true Try.f3.params.toList args.toList ds p := hA0
  rw [Try.params3] at hA hval
  obtain ⟨v0, vs0, d0, ds0, p0, q0, hargs, rfl, rfl, h0, r0⟩ := trodAll_cons hA
  obtain ⟨rfl, rfl, rfl⟩ := trodAll_nil r0
  obtain rfl : args = #[v0] := by cases args; simp_all
  obtain ⟨rfl, rfl⟩ := trodVars_none hV
  obtain ⟨a0, a1, a2, a3, a4, rfl, rfl, rfl, w0, w1, w2, w3, w4⟩ := open_n5 Try.underlying24 (by kernel_rfl) cells Try.underlying22 Try.underlying22 Try.underlying3 Try.underlying3 Try.underlying3 (hval 0 24 v0 rfl rfl) h0
  clear hA0 hval0
  simp only [List.append_nil] at hW'
  refine (walk a0 a1 a2 a3 a4 w0 w1 w2 w3 w4 W).mono fun e W' ⟨he, hg⟩ => ?_
  subst he
  exact ⟨_, rfl, post_of_same (pa := []) (pv := []) hW' (fun _ _ _ => (trodAll_cons_mk (shut_bool Try.underlying4 _) trodAll_mk0)) (fun sp _ => (trodAll_cons_mk (shut_n5 Try.underlying24 (by kernel_rfl) cells Try.underlying22 Try.underlying22 Try.underlying3 Try.underlying3 Try.underlying3 w0 w1 w2 w3 w4) trodAll_mk0)) (fun _ _ => rfl) rfl
    (hg.frame _) hg.2.1 (ok_one (by kernel_rfl) rfl (okWide_bool_mk Try.underlying4 _))⟩

theorem over : Rows.numReckonsRow.holds Try.pinned (OpenSpec.ofChange Rows.numReckonsSpec) :=
  OpenClaim.holds_of_wide 3 Try.f3 rfl rfl rfl rfl rfl rfl rfl ⟨rfl, rfl, rfl, rfl, rfl⟩ rfl rfl rfl rfl rfl (by kernel_rfl) Try.func3 (by kernel_rfl)
    (of_decide_eq_true (by kernel_rfl)) (by unfold Func.isWrapper; first | (rw [if_pos (by decide +kernel)]; kernel_rfl) | (rw [if_neg (by decide +kernel)]; exact ⟨rfl, rfl⟩))
    (fun os started H enc _ => lifted os started H enc)

theorem proved : Rows.NumReckonsSaid :=
  over
#print axioms proved
end Go.Proofs.Ytiihhgpmkodjmaa.LNumReckons
