/- The statement NumOther is proved for every input, from contracts of the functions that it calls; no condition is added. -/
import Derived.Test.YtiihhgpmkodjmaaRows
import Derived.Test.YtiihhgpmkodjmaaAgg
import Derived.WalkKit
import Derived.ProofKit
import Derived.OpenShut
namespace Go.Proofs.Ytiihhgpmkodjmaa.LNumOther
open Go.Joins Go.ChangeShapes Go.WideShapes Go.ChangeAt Go.RowKit Go.Deep
set_option linter.unusedVariables false

theorem own : ownKnob Try.prog.godebug = none := by kernel_rfl
theorem cells : Try.prog.cellsOf 39 = 4 := by kernel_rfl

/-- A word with other bits in its upper half. -/
def oth (a u : Int) : Int := IntKind.u64.wrap (a % 4294967296 + IntKind.u64.wrap (u * 4294967296))
theorem oth_eq (a u : Int) : oth a u = (a % 4294967296 + u * 4294967296 % 18446744073709551616) % 18446744073709551616 := by
  unfold oth; rw [IntKind.wrap_u64, IntKind.wrap_u64]
theorem oth_nn (a u : Int) : 0 ≤ oth a u := by rw [oth_eq]; omega
theorem oth_re (a u : Int) : re (oth a u) = re a := by rw [oth_eq]; unfold re; apply pt_cg; unfold cg; omega
theorem oth_im (a u : Int) : im (oth a u) = im a := by rw [oth_eq]; unfold im; apply pt_cg; unfold cg; omega
theorem oth_add (a b u v : Int) : addw (oth a u) (oth b v) = addw a b := by unfold addw; rw [oth_re, oth_re, oth_im, oth_im]
theorem oth_mul (a b u v : Int) : mulw (oth a u) (oth b v) = mulw a b := by unfold mulw; rw [oth_re, oth_re, oth_im, oth_im]
theorem oth_cnj (a u : Int) : cnj (oth a u) = cnj a := by unfold cnj; rw [oth_re, oth_im]
theorem oth_nrm (a u : Int) : nrm (oth a u) = nrm a := by unfold nrm; rw [oth_re, oth_im]

set_option maxHeartbeats 4000000 in
theorem walk (a0 : Int) (a1 : Int) (a2 : Int) (a3 : Int) (w0 : (Lit.int .u64 a0).wf = true) (w1 : (Lit.int .u64 a1).wf = true) (w2 : (Lit.int .u64 a2).wf = true) (w3 : (Lit.int .u64 a3).wf = true) (w : World) :
    Calls Try.prog 9 #[.agg #[.int .u64 a0, .int .u64 a1, .int .u64 a2, .int .u64 a3]] w fun e w' => e = .returned (.bool true) ∧ Grown w w' := by
  have h0 := nn_of_wf w0
  have h1 := nn_of_wf w1
  have h2 := nn_of_wf w2
  have h3 := nn_of_wf w3
  clear w0 w1 w2 w3
  have hg := (Grown.refl w).alloc #[.int .u64 a0, .int .u64 a1, .int .u64 a2, .int .u64 a3] 39
  go_enter Try.func9, Try.ntmps9
  go_wp2_with (fail)
  refine (shown_any _).mono ?_
  rintro e w' ⟨rfl, hg'⟩
  replace hg := grown_trans hg hg'
  clear hg'
  go_wp2_with (fail)
  refine (parts_as (a0) (_) (_) h0 (rfl) (rfl) _).mono ?_
  rintro e w' ⟨rfl, hg'⟩
  replace hg := grown_trans hg hg'
  clear hg'
  go_wp2_with (fail)
  refine (parts_as (oth a0 a2) (re a0) (im a0) (oth_nn _ _) (oth_re _ _) (oth_im _ _) _).mono ?_
  rintro e w' ⟨rfl, hg'⟩
  replace hg := grown_trans hg hg'
  clear hg'
  go_wp2_with (fail)
  refine (add_as (oth a0 a2) (oth a1 a3) (addw a0 a1) (oth_nn _ _) (oth_nn _ _) (oth_add _ _ _ _) _).mono ?_
  rintro e w' ⟨rfl, hg'⟩
  replace hg := grown_trans hg hg'
  clear hg'
  go_wp2_with (fail)
  refine (add_as (a0) (a1) (_) h0 h1 (rfl) _).mono ?_
  rintro e w' ⟨rfl, hg'⟩
  replace hg := grown_trans hg hg'
  clear hg'
  go_wp2_with (fail)
  refine (mul_as (oth a0 a2) (oth a1 a3) (mulw a0 a1) (oth_nn _ _) (oth_nn _ _) (oth_mul _ _ _ _) _).mono ?_
  rintro e w' ⟨rfl, hg'⟩
  replace hg := grown_trans hg hg'
  clear hg'
  go_wp2_with (fail)
  refine (mul_as (a0) (a1) (_) h0 h1 (rfl) _).mono ?_
  rintro e w' ⟨rfl, hg'⟩
  replace hg := grown_trans hg hg'
  clear hg'
  go_wp2_with (fail)
  refine (conj_as (oth a0 a2) (cnj a0) (oth_nn _ _) (oth_cnj _ _) _).mono ?_
  rintro e w' ⟨rfl, hg'⟩
  replace hg := grown_trans hg hg'
  clear hg'
  go_wp2_with (fail)
  refine (conj_as (a0) (_) h0 (rfl) _).mono ?_
  rintro e w' ⟨rfl, hg'⟩
  replace hg := grown_trans hg hg'
  clear hg'
  go_wp2_with (fail)
  refine (norm_as (oth a0 a2) (nrm a0) (oth_nn _ _) (oth_nrm _ _) _).mono ?_
  rintro e w' ⟨rfl, hg'⟩
  replace hg := grown_trans hg hg'
  clear hg'
  go_wp2_with (fail)
  refine (norm_as (a0) (_) h0 (rfl) _).mono ?_
  rintro e w' ⟨rfl, hg'⟩
  replace hg := grown_trans hg hg'
  clear hg'
  go_wp2
  go_ret
  exact ⟨rfl, hg⟩

set_option maxRecDepth 100000 in
theorem lifted (os : Os) (started : os.Started) (H : Type) (enc : TypeId × Value → H) :
    ReturnsInHanded {} Try.checked os 9 .any (Rows.numOtherSpec.pre6 enc Try.prog Try.f9 Rows.numOtherRow.domain false) (Rows.numOtherSpec.post enc Try.prog Try.f9 false true false false) := by
  refine returnsInHanded_of_change (C := Try.checked) own started (by kernel_rfl) Try.func9
    (ChangeSpec.witness6 (enc := enc) (C := Try.checked) false ⟨#[], #[.agg #[.int .u64 0, .int .u64 0, .int .u64 0, .int .u64 0]], []⟩ 8 (by kernel_rfl) (by kernel_rfl) (by kernel_rfl) (by kernel_rfl)) ?_
  intro W base args ds gs before hval0 hW hcnd _
  have hval : ∀ (j : Nat) t v, Try.f9.params[j]? = some t → args[j]? = some v → Value.okWide Try.prog W .any base t v := hval0
  have hW' := hW
  obtain ⟨p, q, hA0, hV, rfl, hfz, hnd⟩ := hW
  have hA : DataW.TrodAll enc Try.prog W 0 (fun _ => true) true Try.f9.params.toList args.toList ds p := hA0
  rw [Try.params9] at hA hval
  obtain ⟨v0, vs0, d0, ds0, p0, q0, hargs, rfl, rfl, h0, r0⟩ := trodAll_cons hA
  obtain ⟨rfl, rfl, rfl⟩ := trodAll_nil r0
  obtain rfl : args = #[v0] := by cases args; simp_all
  obtain ⟨rfl, rfl⟩ := trodVars_none hV
  obtain ⟨a0, a1, a2, a3, rfl, rfl, rfl, w0, w1, w2, w3⟩ := open_n4 Try.underlying39 (by kernel_rfl) cells Try.underlying22 Try.underlying22 Try.underlying22 Try.underlying22 (hval 0 39 v0 rfl rfl) h0
  clear hA0 hval0
  simp only [List.append_nil] at hW'
  refine (walk a0 a1 a2 a3 w0 w1 w2 w3 W).mono fun e W' ⟨he, hg⟩ => ?_
  subst he
  exact ⟨_, rfl, post_of_same (pa := []) (pv := []) hW' (fun _ _ _ => (trodAll_cons_mk (shut_bool Try.underlying4 _) trodAll_mk0)) (fun sp _ => (trodAll_cons_mk (shut_n4 Try.underlying39 (by kernel_rfl) cells Try.underlying22 Try.underlying22 Try.underlying22 Try.underlying22 w0 w1 w2 w3) trodAll_mk0)) (fun _ _ => rfl) rfl
    (hg.frame _) hg.2.1 (ok_one (by kernel_rfl) rfl (okWide_bool_mk Try.underlying4 _))⟩

theorem over : Rows.numOtherRow.holds Try.pinned (OpenSpec.ofChange Rows.numOtherSpec) :=
  OpenClaim.holds_of_wide 9 Try.f9 rfl rfl rfl rfl rfl rfl rfl ⟨rfl, rfl, rfl, rfl, rfl⟩ rfl rfl rfl rfl rfl (by kernel_rfl) Try.func9 (by kernel_rfl)
    (of_decide_eq_true (by kernel_rfl)) (by unfold Func.isWrapper; first | (rw [if_pos (by decide +kernel)]; kernel_rfl) | (rw [if_neg (by decide +kernel)]; exact ⟨rfl, rfl⟩))
    (fun os started H enc _ => lifted os started H enc)

theorem proved : Rows.NumOtherSaid :=
  over
#print axioms proved
end Go.Proofs.Ytiihhgpmkodjmaa.LNumOther
