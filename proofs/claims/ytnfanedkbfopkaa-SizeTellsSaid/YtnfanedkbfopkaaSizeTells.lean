/- The statement SizeTells is proved for every input, from contracts of the functions that it calls; no condition is added. -/
import Derived.Test.YtnfanedkbfopkaaRows
import Derived.Test.YtnfanedkbfopkaaAgg
import Derived.WalkKit
import Derived.ProofKit
import Derived.OpenShut
namespace Go.Proofs.Ytnfanedkbfopkaa.LSizeTells
open Go.Joins Go.ChangeShapes Go.WideShapes Go.ChangeAt Go.RowKit Go.Deep
set_option linter.unusedVariables false

theorem own : ownKnob Try.prog.godebug = none := by kernel_rfl
theorem cells : Try.prog.cellsOf 24 = 4 := by kernel_rfl

set_option maxHeartbeats 4000000 in
theorem walk (a0 : Int) (a1 : Int) (a2 : Int) (a3 : Int) (w0 : (Lit.int .i64 a0).wf = true) (w1 : (Lit.int .i64 a1).wf = true) (w2 : (Lit.int .i64 a2).wf = true) (w3 : (Lit.int .u64 a3).wf = true) (w : World) :
    Calls Try.prog 3 #[.agg #[.int .i64 a0, .int .i64 a1, .int .i64 a2, .int .u64 a3]] w fun e w' => e = .returned (.bool true) ∧ Grown w w' := by
  have i0 := Lib.hid (i64_of_wf w0)
  have i1 := Lib.hid (i64_of_wf w1)
  have i2 := Lib.hid (i64_of_wf w2)
  have h3 := nn_of_wf w3
  have k3 := hi_of_wf w3
  clear w0 w1 w2 w3
  have T := Lib.hid (show Grown w (w.alloc (.cells #[.int .i64 a0, .int .i64 a1, .int .i64 a2, .int .u64 a3] 24)) from (Grown.refl w).alloc #[.int .i64 a0, .int .i64 a1, .int .i64 a2, .int .u64 a3] 24)
  by_cases z : a0 = 0
  · subst z
    have hg := T.out
    go_enter Try.func3, Try.ntmps3
    go_wp2_with (fail)
    refine (shown_any _).mono ?_
    rintro e w' ⟨rfl, rfl⟩
    go_wp2_with (fail)
    refine (add_any 0 a1 i0.out i1.out _).mono ?_
    rintro e w' ⟨rfl, hg'⟩
    replace hg := grown_trans hg hg'
    clear hg'
    go_wp2_with (fail)
    refine (radd 0 a1 i0.out i1.out _).mono ?_
    rintro e w' ⟨rfl, rfl⟩
    go_wp2_with (fail)
    refine (obj_any 0 _).mono ?_
    rintro e w' ⟨rfl, rfl⟩
    go_wp2_with (fail)
    refine (robj 0 _).mono ?_
    rintro e w' ⟨rfl, rfl⟩
    go_wp2_with (fail)
    refine (where_any a3 h3 k3 _).mono ?_
    rintro e w' ⟨rfl, hg'⟩
    replace hg := grown_trans hg hg'
    clear hg'
    go_wp2_with (fail)
    refine (rwhere a3 h3 k3 _).mono ?_
    rintro e w' ⟨rfl, rfl⟩
    go_wp2_with (fail)
    refine (other_0 _).mono ?_
    rintro e w' ⟨rfl, rfl⟩
    go_wp2_with (fail)
    refine (fits_any 0 a1 a2 i0.out i1.out i2.out _).mono ?_
    rintro e w' ⟨rfl, hg'⟩
    replace hg := grown_trans hg hg'
    clear hg'
    go_wp2_with (fail)
    refine (rfits 0 a1 a2 i0.out i1.out i2.out _).mono ?_
    rintro e w' ⟨rfl, rfl⟩
    go_wp2_with (fail)
    refine (addr_any 0 a1 _).mono ?_
    rintro e w' ⟨rfl, rfl⟩
    go_wp2_with (fail)
    refine (raddr 0 a1 _).mono ?_
    rintro e w' ⟨rfl, rfl⟩
    go_wp2
    go_ret
    exact ⟨rfl, hg⟩
  · have z2 : (a0 != 0) = true := bne_iff_ne.mpr z
    have hg := T.out
    go_enter Try.func3, Try.ntmps3
    go_wp2_with (fail)
    refine (shown_any _).mono ?_
    rintro e w' ⟨rfl, rfl⟩
    go_wp2_with (fail)
    refine (add_any a0 a1 i0.out i1.out _).mono ?_
    rintro e w' ⟨rfl, hg'⟩
    replace hg := grown_trans hg hg'
    clear hg'
    go_wp2_with (fail)
    refine (radd a0 a1 i0.out i1.out _).mono ?_
    rintro e w' ⟨rfl, rfl⟩
    go_wp2_with (fail)
    refine (obj_any a0 _).mono ?_
    rintro e w' ⟨rfl, rfl⟩
    go_wp2_with (fail)
    refine (robj a0 _).mono ?_
    rintro e w' ⟨rfl, rfl⟩
    go_wp2_with (fail)
    refine (where_any a3 h3 k3 _).mono ?_
    rintro e w' ⟨rfl, hg'⟩
    replace hg := grown_trans hg hg'
    clear hg'
    go_wp2_with (fail)
    refine (rwhere a3 h3 k3 _).mono ?_
    rintro e w' ⟨rfl, rfl⟩
    go_wp2_with (fail)
    refine (other_1 a0 z _).mono ?_
    rintro e w' ⟨rfl, rfl⟩
    go_wp2_with (fail)
    refine (other_1 a0 z _).mono ?_
    rintro e w' ⟨rfl, rfl⟩
    go_wp2_with (fail)
    refine (fits_any a0 a1 a2 i0.out i1.out i2.out _).mono ?_
    rintro e w' ⟨rfl, hg'⟩
    replace hg := grown_trans hg hg'
    clear hg'
    go_wp2_with (fail)
    refine (rfits a0 a1 a2 i0.out i1.out i2.out _).mono ?_
    rintro e w' ⟨rfl, rfl⟩
    go_wp2_with (fail)
    refine (addr_any a0 a1 _).mono ?_
    rintro e w' ⟨rfl, rfl⟩
    go_wp2_with (fail)
    refine (raddr a0 a1 _).mono ?_
    rintro e w' ⟨rfl, rfl⟩
    go_wp2
    go_ret
    exact ⟨rfl, hg⟩

set_option maxRecDepth 100000 in
theorem lifted (os : Os) (started : os.Started) (H : Type) (enc : TypeId × Value → H) :
    ReturnsInHanded {} Try.checked os 3 .any (Rows.sizeTellsSpec.pre6 enc Try.prog Try.f3 Rows.sizeTellsRow.domain false) (Rows.sizeTellsSpec.post enc Try.prog Try.f3 false true false false) := by
  refine returnsInHanded_of_change (C := Try.checked) own started (by kernel_rfl) Try.func3
    (ChangeSpec.witness6 (enc := enc) (C := Try.checked) false ⟨#[], #[.agg #[.int .i64 0, .int .i64 0, .int .i64 0, .int .u64 0]], []⟩ 8 (by kernel_rfl) (by kernel_rfl) (by kernel_rfl) (by kernel_rfl)) ?_
  intro W base args ds gs before hval0 hW hcnd _
  have hval : ∀ (j : Nat) t v, Try.f3.params[j]? = some t → args[j]? = some v → Value.okWide Try.prog W .any base t v := hval0
  have hW' := hW
  obtain ⟨p, q, hA0, hV, rfl, hfz, hnd⟩ := hW
  have hA : DataW.TrodAll enc Try.prog W 0 (fun _ => true) true Try.f3.params.toList args.toList ds p := hA0
  rw [Try.params3] at hA hval
  obtain ⟨v0, vs0, d0, ds0, p0, q0, hargs, rfl, rfl, h0, r0⟩ := trodAll_cons hA
  obtain ⟨rfl, rfl, rfl⟩ := trodAll_nil r0
  obtain rfl : args = #[v0] := by cases args; simp_all
  obtain ⟨rfl, rfl⟩ := trodVars_none hV
  obtain ⟨a0, a1, a2, a3, rfl, rfl, rfl, w0, w1, w2, w3⟩ := open_n4 Try.underlying24 (by kernel_rfl) cells Try.underlying3 Try.underlying3 Try.underlying3 Try.underlying22 (hval 0 24 v0 rfl rfl) h0
  clear hA0 hval0
  simp only [List.append_nil] at hW'
  refine (walk a0 a1 a2 a3 w0 w1 w2 w3 W).mono fun e W' ⟨he, hg⟩ => ?_
  subst he
  exact ⟨_, rfl, post_of_same (pa := []) (pv := []) hW' (fun _ _ _ => (trodAll_cons_mk (shut_bool Try.underlying4 _) trodAll_mk0)) (fun sp _ => (trodAll_cons_mk (shut_n4 Try.underlying24 (by kernel_rfl) cells Try.underlying3 Try.underlying3 Try.underlying3 Try.underlying22 w0 w1 w2 w3) trodAll_mk0)) (fun _ _ => rfl) rfl
    (hg.frame _) hg.2.1 (ok_one (by kernel_rfl) rfl (okWide_bool_mk Try.underlying4 _))⟩

theorem over : Rows.sizeTellsRow.holds Try.pinned (OpenSpec.ofChange Rows.sizeTellsSpec) :=
  OpenClaim.holds_of_wide 3 Try.f3 rfl rfl rfl rfl rfl rfl rfl ⟨rfl, rfl, rfl, rfl, rfl⟩ rfl rfl rfl rfl rfl (by kernel_rfl) Try.func3 (by kernel_rfl)
    (of_decide_eq_true (by kernel_rfl)) (by unfold Func.isWrapper; first | (rw [if_pos (by decide +kernel)]; kernel_rfl) | (rw [if_neg (by decide +kernel)]; exact ⟨rfl, rfl⟩))
    (fun os started H enc _ => lifted os started H enc)

theorem proved : Rows.SizeTellsSaid :=
  over
#print axioms proved
end Go.Proofs.Ytnfanedkbfopkaa.LSizeTells
