/- The statement NumTurns is proved for every input, from contracts of the functions that it calls; no condition is added. -/
import Derived.Test.YtiihhgpmkodjmaaRows
import Derived.Test.YtiihhgpmkodjmaaUse
import Derived.WalkKit
import Derived.ProofKit
import Derived.OpenShut
namespace Go.Proofs.Ytiihhgpmkodjmaa.LNumTurns
open Go.ChangeShapes Go.WideShapes Go.ChangeAt Go.RowKit
set_option linter.unusedVariables false      -- a walk need not use every 'w<i>' (that an integer argument fits its kind)

theorem own : ownKnob Try.prog.godebug = none := by kernel_rfl

/-! ### STEP 1: THE WALK: the Go text returns true. 'Grown w w'': the world has at most new blocks (Derived/RowKit3.lean). Part the cases AHEAD of 'go_enter' where a test parts the walk; take each callee by a contract of your own. -/
set_option maxHeartbeats 4000000 in
theorem walk (a0 : Int) (a1 : Int) (a2 : Int) (w0 : (Lit.int .u64 a0).wf = true) (w1 : (Lit.int .i64 a1).wf = true) (w2 : (Lit.int .i64 a2).wf = true) (w : World) :
    Calls Try.prog 7 #[.int .u64 a0, .int .i64 a1, .int .i64 a2] w fun e w' => e = .returned (.bool true) ∧ Grown w w' := by
  have h0 := nn_of_wf w0
  obtain ⟨l1, u1⟩ := lo_of_wf w1
  obtain ⟨l2, u2⟩ := lo_of_wf w2
  have hg := Grown.refl w
  clear w0 w1 w2
  by_cases c1 : a1 < 0
  · skip
    go_enter Try.func7, Try.ntmps7
    go_wp2_with (fail)
    refine (shown_any _).mono ?_
    rintro e w' ⟨rfl, hg'⟩
    replace hg := grown_trans hg hg'
    clear hg'
    go_wp2_with (fail)
    refine (pack_as (0) (1) (_) (rfl) _).mono ?_
    rintro e w' ⟨rfl, rfl⟩
    go_wp2_with (fail)
    refine (mul_as (a0) (pk 0 1) (_) (by first | assumption | exact mulw_nn _ _ | exact addw_nn _ _ | exact pk_nn _ _ | exact cnj_nn _ | exact nrm_nn _ | exact poww_nn _ _ | decide) (by first | assumption | exact mulw_nn _ _ | exact addw_nn _ _ | exact pk_nn _ _ | exact cnj_nn _ | exact nrm_nn _ | exact poww_nn _ _ | decide) (rfl) _).mono ?_
    rintro e w' ⟨rfl, hg'⟩
    replace hg := grown_trans hg hg'
    clear hg'
    go_wp2_with (fail)
    refine (mul_as (mulw a0 (pk 0 1)) (pk 0 1) (_) (by first | assumption | exact mulw_nn _ _ | exact addw_nn _ _ | exact pk_nn _ _ | exact cnj_nn _ | exact nrm_nn _ | exact poww_nn _ _ | decide) (by first | assumption | exact mulw_nn _ _ | exact addw_nn _ _ | exact pk_nn _ _ | exact cnj_nn _ | exact nrm_nn _ | exact poww_nn _ _ | decide) (rfl) _).mono ?_
    rintro e w' ⟨rfl, hg'⟩
    replace hg := grown_trans hg hg'
    clear hg'
    go_wp2_with (fail)
    refine (mul_as (mulw (mulw a0 (pk 0 1)) (pk 0 1)) (pk 0 1) (_) (by first | assumption | exact mulw_nn _ _ | exact addw_nn _ _ | exact pk_nn _ _ | exact cnj_nn _ | exact nrm_nn _ | exact poww_nn _ _ | decide) (by first | assumption | exact mulw_nn _ _ | exact addw_nn _ _ | exact pk_nn _ _ | exact cnj_nn _ | exact nrm_nn _ | exact poww_nn _ _ | decide) (rfl) _).mono ?_
    rintro e w' ⟨rfl, hg'⟩
    replace hg := grown_trans hg hg'
    clear hg'
    go_wp2_with (fail)
    refine (mul_as (mulw (mulw (mulw a0 (pk 0 1)) (pk 0 1)) (pk 0 1)) (pk 0 1) (nrm a0) (by first | assumption | exact mulw_nn _ _ | exact addw_nn _ _ | exact pk_nn _ _ | exact cnj_nn _ | exact nrm_nn _ | exact poww_nn _ _ | decide) (by first | assumption | exact mulw_nn _ _ | exact addw_nn _ _ | exact pk_nn _ _ | exact cnj_nn _ | exact nrm_nn _ | exact poww_nn _ _ | decide) (mul_i4 _) _).mono ?_
    rintro e w' ⟨rfl, hg'⟩
    replace hg := grown_trans hg hg'
    clear hg'
    go_wp2_with (fail)
    refine (norm_as (a0) (_) (by first | assumption | exact mulw_nn _ _ | exact addw_nn _ _ | exact pk_nn _ _ | exact cnj_nn _ | exact nrm_nn _ | exact poww_nn _ _ | decide) (rfl) _).mono ?_
    rintro e w' ⟨rfl, hg'⟩
    replace hg := grown_trans hg hg'
    clear hg'
    go_wp2
    go_ret
    exact ⟨rfl, hg⟩
  · by_cases c2 : a2 < 0
    · skip
      go_enter Try.func7, Try.ntmps7
      go_wp2_with (fail)
      refine (shown_any _).mono ?_
      rintro e w' ⟨rfl, hg'⟩
      replace hg := grown_trans hg hg'
      clear hg'
      go_wp2_with (fail)
      refine (pack_as (0) (1) (_) (rfl) _).mono ?_
      rintro e w' ⟨rfl, rfl⟩
      go_wp2_with (fail)
      refine (mul_as (a0) (pk 0 1) (_) (by first | assumption | exact mulw_nn _ _ | exact addw_nn _ _ | exact pk_nn _ _ | exact cnj_nn _ | exact nrm_nn _ | exact poww_nn _ _ | decide) (by first | assumption | exact mulw_nn _ _ | exact addw_nn _ _ | exact pk_nn _ _ | exact cnj_nn _ | exact nrm_nn _ | exact poww_nn _ _ | decide) (rfl) _).mono ?_
      rintro e w' ⟨rfl, hg'⟩
      replace hg := grown_trans hg hg'
      clear hg'
      go_wp2_with (fail)
      refine (mul_as (mulw a0 (pk 0 1)) (pk 0 1) (_) (by first | assumption | exact mulw_nn _ _ | exact addw_nn _ _ | exact pk_nn _ _ | exact cnj_nn _ | exact nrm_nn _ | exact poww_nn _ _ | decide) (by first | assumption | exact mulw_nn _ _ | exact addw_nn _ _ | exact pk_nn _ _ | exact cnj_nn _ | exact nrm_nn _ | exact poww_nn _ _ | decide) (rfl) _).mono ?_
      rintro e w' ⟨rfl, hg'⟩
      replace hg := grown_trans hg hg'
      clear hg'
      go_wp2_with (fail)
      refine (mul_as (mulw (mulw a0 (pk 0 1)) (pk 0 1)) (pk 0 1) (_) (by first | assumption | exact mulw_nn _ _ | exact addw_nn _ _ | exact pk_nn _ _ | exact cnj_nn _ | exact nrm_nn _ | exact poww_nn _ _ | decide) (by first | assumption | exact mulw_nn _ _ | exact addw_nn _ _ | exact pk_nn _ _ | exact cnj_nn _ | exact nrm_nn _ | exact poww_nn _ _ | decide) (rfl) _).mono ?_
      rintro e w' ⟨rfl, hg'⟩
      replace hg := grown_trans hg hg'
      clear hg'
      go_wp2_with (fail)
      refine (mul_as (mulw (mulw (mulw a0 (pk 0 1)) (pk 0 1)) (pk 0 1)) (pk 0 1) (nrm a0) (by first | assumption | exact mulw_nn _ _ | exact addw_nn _ _ | exact pk_nn _ _ | exact cnj_nn _ | exact nrm_nn _ | exact poww_nn _ _ | decide) (by first | assumption | exact mulw_nn _ _ | exact addw_nn _ _ | exact pk_nn _ _ | exact cnj_nn _ | exact nrm_nn _ | exact poww_nn _ _ | decide) (mul_i4 _) _).mono ?_
      rintro e w' ⟨rfl, hg'⟩
      replace hg := grown_trans hg hg'
      clear hg'
      go_wp2_with (fail)
      refine (norm_as (a0) (_) (by first | assumption | exact mulw_nn _ _ | exact addw_nn _ _ | exact pk_nn _ _ | exact cnj_nn _ | exact nrm_nn _ | exact poww_nn _ _ | decide) (rfl) _).mono ?_
      rintro e w' ⟨rfl, hg'⟩
      replace hg := grown_trans hg hg'
      clear hg'
      go_wp2
      go_ret
      exact ⟨rfl, hg⟩
    · by_cases c3 : 30 < a1
      · skip
        go_enter Try.func7, Try.ntmps7
        go_wp2_with (fail)
        refine (shown_any _).mono ?_
        rintro e w' ⟨rfl, hg'⟩
        replace hg := grown_trans hg hg'
        clear hg'
        go_wp2_with (fail)
        refine (pack_as (0) (1) (_) (rfl) _).mono ?_
        rintro e w' ⟨rfl, rfl⟩
        go_wp2_with (fail)
        refine (mul_as (a0) (pk 0 1) (_) (by first | assumption | exact mulw_nn _ _ | exact addw_nn _ _ | exact pk_nn _ _ | exact cnj_nn _ | exact nrm_nn _ | exact poww_nn _ _ | decide) (by first | assumption | exact mulw_nn _ _ | exact addw_nn _ _ | exact pk_nn _ _ | exact cnj_nn _ | exact nrm_nn _ | exact poww_nn _ _ | decide) (rfl) _).mono ?_
        rintro e w' ⟨rfl, hg'⟩
        replace hg := grown_trans hg hg'
        clear hg'
        go_wp2_with (fail)
        refine (mul_as (mulw a0 (pk 0 1)) (pk 0 1) (_) (by first | assumption | exact mulw_nn _ _ | exact addw_nn _ _ | exact pk_nn _ _ | exact cnj_nn _ | exact nrm_nn _ | exact poww_nn _ _ | decide) (by first | assumption | exact mulw_nn _ _ | exact addw_nn _ _ | exact pk_nn _ _ | exact cnj_nn _ | exact nrm_nn _ | exact poww_nn _ _ | decide) (rfl) _).mono ?_
        rintro e w' ⟨rfl, hg'⟩
        replace hg := grown_trans hg hg'
        clear hg'
        go_wp2_with (fail)
        refine (mul_as (mulw (mulw a0 (pk 0 1)) (pk 0 1)) (pk 0 1) (_) (by first | assumption | exact mulw_nn _ _ | exact addw_nn _ _ | exact pk_nn _ _ | exact cnj_nn _ | exact nrm_nn _ | exact poww_nn _ _ | decide) (by first | assumption | exact mulw_nn _ _ | exact addw_nn _ _ | exact pk_nn _ _ | exact cnj_nn _ | exact nrm_nn _ | exact poww_nn _ _ | decide) (rfl) _).mono ?_
        rintro e w' ⟨rfl, hg'⟩
        replace hg := grown_trans hg hg'
        clear hg'
        go_wp2_with (fail)
        refine (mul_as (mulw (mulw (mulw a0 (pk 0 1)) (pk 0 1)) (pk 0 1)) (pk 0 1) (nrm a0) (by first | assumption | exact mulw_nn _ _ | exact addw_nn _ _ | exact pk_nn _ _ | exact cnj_nn _ | exact nrm_nn _ | exact poww_nn _ _ | decide) (by first | assumption | exact mulw_nn _ _ | exact addw_nn _ _ | exact pk_nn _ _ | exact cnj_nn _ | exact nrm_nn _ | exact poww_nn _ _ | decide) (mul_i4 _) _).mono ?_
        rintro e w' ⟨rfl, hg'⟩
        replace hg := grown_trans hg hg'
        clear hg'
        go_wp2_with (fail)
        refine (norm_as (a0) (_) (by first | assumption | exact mulw_nn _ _ | exact addw_nn _ _ | exact pk_nn _ _ | exact cnj_nn _ | exact nrm_nn _ | exact poww_nn _ _ | decide) (rfl) _).mono ?_
        rintro e w' ⟨rfl, hg'⟩
        replace hg := grown_trans hg hg'
        clear hg'
        go_wp2
        go_ret
        exact ⟨rfl, hg⟩
      · by_cases c4 : 30 < a2
        · skip
          go_enter Try.func7, Try.ntmps7
          go_wp2_with (fail)
          refine (shown_any _).mono ?_
          rintro e w' ⟨rfl, hg'⟩
          replace hg := grown_trans hg hg'
          clear hg'
          go_wp2_with (fail)
          refine (pack_as (0) (1) (_) (rfl) _).mono ?_
          rintro e w' ⟨rfl, rfl⟩
          go_wp2_with (fail)
          refine (mul_as (a0) (pk 0 1) (_) (by first | assumption | exact mulw_nn _ _ | exact addw_nn _ _ | exact pk_nn _ _ | exact cnj_nn _ | exact nrm_nn _ | exact poww_nn _ _ | decide) (by first | assumption | exact mulw_nn _ _ | exact addw_nn _ _ | exact pk_nn _ _ | exact cnj_nn _ | exact nrm_nn _ | exact poww_nn _ _ | decide) (rfl) _).mono ?_
          rintro e w' ⟨rfl, hg'⟩
          replace hg := grown_trans hg hg'
          clear hg'
          go_wp2_with (fail)
          refine (mul_as (mulw a0 (pk 0 1)) (pk 0 1) (_) (by first | assumption | exact mulw_nn _ _ | exact addw_nn _ _ | exact pk_nn _ _ | exact cnj_nn _ | exact nrm_nn _ | exact poww_nn _ _ | decide) (by first | assumption | exact mulw_nn _ _ | exact addw_nn _ _ | exact pk_nn _ _ | exact cnj_nn _ | exact nrm_nn _ | exact poww_nn _ _ | decide) (rfl) _).mono ?_
          rintro e w' ⟨rfl, hg'⟩
          replace hg := grown_trans hg hg'
          clear hg'
          go_wp2_with (fail)
          refine (mul_as (mulw (mulw a0 (pk 0 1)) (pk 0 1)) (pk 0 1) (_) (by first | assumption | exact mulw_nn _ _ | exact addw_nn _ _ | exact pk_nn _ _ | exact cnj_nn _ | exact nrm_nn _ | exact poww_nn _ _ | decide) (by first | assumption | exact mulw_nn _ _ | exact addw_nn _ _ | exact pk_nn _ _ | exact cnj_nn _ | exact nrm_nn _ | exact poww_nn _ _ | decide) (rfl) _).mono ?_
          rintro e w' ⟨rfl, hg'⟩
          replace hg := grown_trans hg hg'
          clear hg'
          go_wp2_with (fail)
          refine (mul_as (mulw (mulw (mulw a0 (pk 0 1)) (pk 0 1)) (pk 0 1)) (pk 0 1) (nrm a0) (by first | assumption | exact mulw_nn _ _ | exact addw_nn _ _ | exact pk_nn _ _ | exact cnj_nn _ | exact nrm_nn _ | exact poww_nn _ _ | decide) (by first | assumption | exact mulw_nn _ _ | exact addw_nn _ _ | exact pk_nn _ _ | exact cnj_nn _ | exact nrm_nn _ | exact poww_nn _ _ | decide) (mul_i4 _) _).mono ?_
          rintro e w' ⟨rfl, hg'⟩
          replace hg := grown_trans hg hg'
          clear hg'
          go_wp2_with (fail)
          refine (norm_as (a0) (_) (by first | assumption | exact mulw_nn _ _ | exact addw_nn _ _ | exact pk_nn _ _ | exact cnj_nn _ | exact nrm_nn _ | exact poww_nn _ _ | decide) (rfl) _).mono ?_
          rintro e w' ⟨rfl, hg'⟩
          replace hg := grown_trans hg hg'
          clear hg'
          go_wp2
          go_ret
          exact ⟨rfl, hg⟩
        · have hp : mulw (poww a0 (min a1.toNat 64)) (poww a0 (min a2.toNat 64)) = poww a0 (min (a1 + a2).toNat 64) := by
            rw [← pow_add]; congr 1; omega
          have HP := Lib.hid hp
          clear hp
          go_enter Try.func7, Try.ntmps7
          go_wp2_with (fail)
          refine (shown_any _).mono ?_
          rintro e w' ⟨rfl, hg'⟩
          replace hg := grown_trans hg hg'
          clear hg'
          go_wp2_with (fail)
          refine (pack_as (0) (1) (_) (rfl) _).mono ?_
          rintro e w' ⟨rfl, rfl⟩
          go_wp2_with (fail)
          refine (mul_as (a0) (pk 0 1) (_) (by first | assumption | exact mulw_nn _ _ | exact addw_nn _ _ | exact pk_nn _ _ | exact cnj_nn _ | exact nrm_nn _ | exact poww_nn _ _ | decide) (by first | assumption | exact mulw_nn _ _ | exact addw_nn _ _ | exact pk_nn _ _ | exact cnj_nn _ | exact nrm_nn _ | exact poww_nn _ _ | decide) (rfl) _).mono ?_
          rintro e w' ⟨rfl, hg'⟩
          replace hg := grown_trans hg hg'
          clear hg'
          go_wp2_with (fail)
          refine (mul_as (mulw a0 (pk 0 1)) (pk 0 1) (_) (by first | assumption | exact mulw_nn _ _ | exact addw_nn _ _ | exact pk_nn _ _ | exact cnj_nn _ | exact nrm_nn _ | exact poww_nn _ _ | decide) (by first | assumption | exact mulw_nn _ _ | exact addw_nn _ _ | exact pk_nn _ _ | exact cnj_nn _ | exact nrm_nn _ | exact poww_nn _ _ | decide) (rfl) _).mono ?_
          rintro e w' ⟨rfl, hg'⟩
          replace hg := grown_trans hg hg'
          clear hg'
          go_wp2_with (fail)
          refine (mul_as (mulw (mulw a0 (pk 0 1)) (pk 0 1)) (pk 0 1) (_) (by first | assumption | exact mulw_nn _ _ | exact addw_nn _ _ | exact pk_nn _ _ | exact cnj_nn _ | exact nrm_nn _ | exact poww_nn _ _ | decide) (by first | assumption | exact mulw_nn _ _ | exact addw_nn _ _ | exact pk_nn _ _ | exact cnj_nn _ | exact nrm_nn _ | exact poww_nn _ _ | decide) (rfl) _).mono ?_
          rintro e w' ⟨rfl, hg'⟩
          replace hg := grown_trans hg hg'
          clear hg'
          go_wp2_with (fail)
          refine (mul_as (mulw (mulw (mulw a0 (pk 0 1)) (pk 0 1)) (pk 0 1)) (pk 0 1) (nrm a0) (by first | assumption | exact mulw_nn _ _ | exact addw_nn _ _ | exact pk_nn _ _ | exact cnj_nn _ | exact nrm_nn _ | exact poww_nn _ _ | decide) (by first | assumption | exact mulw_nn _ _ | exact addw_nn _ _ | exact pk_nn _ _ | exact cnj_nn _ | exact nrm_nn _ | exact poww_nn _ _ | decide) (mul_i4 _) _).mono ?_
          rintro e w' ⟨rfl, hg'⟩
          replace hg := grown_trans hg hg'
          clear hg'
          go_wp2_with (fail)
          refine (norm_as (a0) (_) (by first | assumption | exact mulw_nn _ _ | exact addw_nn _ _ | exact pk_nn _ _ | exact cnj_nn _ | exact nrm_nn _ | exact poww_nn _ _ | decide) (rfl) _).mono ?_
          rintro e w' ⟨rfl, hg'⟩
          replace hg := grown_trans hg hg'
          clear hg'
          go_wp2_with (fail)
          refine (pow_as (a0) (a1 + a2) (_) (by first | assumption | exact mulw_nn _ _ | exact addw_nn _ _ | exact pk_nn _ _ | exact cnj_nn _ | exact nrm_nn _ | exact poww_nn _ _ | decide) (by omega) (rfl) _).mono ?_
          rintro e w' ⟨rfl, hg'⟩
          replace hg := grown_trans hg hg'
          clear hg'
          go_wp2_with (fail)
          refine (pow_as (a0) (a1) (_) (by first | assumption | exact mulw_nn _ _ | exact addw_nn _ _ | exact pk_nn _ _ | exact cnj_nn _ | exact nrm_nn _ | exact poww_nn _ _ | decide) (by omega) (rfl) _).mono ?_
          rintro e w' ⟨rfl, hg'⟩
          replace hg := grown_trans hg hg'
          clear hg'
          go_wp2_with (fail)
          refine (pow_as (a0) (a2) (_) (by first | assumption | exact mulw_nn _ _ | exact addw_nn _ _ | exact pk_nn _ _ | exact cnj_nn _ | exact nrm_nn _ | exact poww_nn _ _ | decide) (by omega) (rfl) _).mono ?_
          rintro e w' ⟨rfl, hg'⟩
          replace hg := grown_trans hg hg'
          clear hg'
          go_wp2_with (fail)
          refine (mul_as (poww a0 (min a1.toNat 64)) (poww a0 (min a2.toNat 64)) (poww a0 (min (a1 + a2).toNat 64)) (by first | assumption | exact mulw_nn _ _ | exact addw_nn _ _ | exact pk_nn _ _ | exact cnj_nn _ | exact nrm_nn _ | exact poww_nn _ _ | decide) (by first | assumption | exact mulw_nn _ _ | exact addw_nn _ _ | exact pk_nn _ _ | exact cnj_nn _ | exact nrm_nn _ | exact poww_nn _ _ | decide) (HP.out) _).mono ?_
          rintro e w' ⟨rfl, hg'⟩
          replace hg := grown_trans hg hg'
          clear hg'
          go_wp2
          go_ret
          exact ⟨rfl, hg⟩

/-! ### THE ROW's STEP: WRITTEN OUT: LEAVE IT -/
set_option maxRecDepth 100000 in
theorem lifted (os : Os) (started : os.Started) (H : Type) (enc : TypeId × Value → H) :
    ReturnsInHanded {} Try.checked os 7 .any (Rows.numTurnsSpec.pre6 enc Try.prog Try.f7 Rows.numTurnsRow.domain false) (Rows.numTurnsSpec.post enc Try.prog Try.f7 false true false false) := by
  refine returnsInHanded_of_change (C := Try.checked) own started (by kernel_rfl) Try.func7
    (ChangeSpec.witness6 (enc := enc) (C := Try.checked) false ⟨#[], #[.int .u64 0, .int .i64 0, .int .i64 0], []⟩ 8 (by kernel_rfl) (by kernel_rfl) (by kernel_rfl) (by kernel_rfl)) ?_
  intro W base args ds gs before hval0 hW hcnd _
  have hval : ∀ (j : Nat) t v, Try.f7.params[j]? = some t → args[j]? = some v → Value.okWide Try.prog W .any base t v := hval0
  have hW' := hW
  obtain ⟨p, q, hA0, hV, rfl, hfz, hnd⟩ := hW
  have hA : DataW.TrodAll enc Try.prog W 0 (fun _ => true) true Try.f7.params.toList args.toList ds p := hA0
  rw [Try.params7] at hA hval
  obtain ⟨v0, vs0, d0, ds0, p0, q0, hargs, rfl, rfl, h0, r0⟩ := trodAll_cons hA
  obtain ⟨v1, vs1, d1, ds1, p1, q1, rfl, rfl, rfl, h1, r1⟩ := trodAll_cons r0
  obtain ⟨v2, vs2, d2, ds2, p2, q2, rfl, rfl, rfl, h2, r2⟩ := trodAll_cons r1
  obtain ⟨rfl, rfl, rfl⟩ := trodAll_nil r2
  obtain rfl : args = #[v0, v1, v2] := by cases args; simp_all
  obtain ⟨rfl, rfl⟩ := trodVars_none hV
  obtain ⟨a0, rfl, rfl, rfl, w0⟩ := open_int Try.underlying22 (hval 0 22 v0 rfl rfl) h0
  obtain ⟨a1, rfl, rfl, rfl, w1⟩ := open_int Try.underlying3 (hval 1 3 v1 rfl rfl) h1
  obtain ⟨a2, rfl, rfl, rfl, w2⟩ := open_int Try.underlying3 (hval 2 3 v2 rfl rfl) h2
  clear hA0 hval0
  simp only [List.append_nil] at hW'
  refine (walk a0 a1 a2 w0 w1 w2 W).mono fun e W' ⟨he, hg⟩ => ?_
  subst he
  exact ⟨_, rfl, post_of_same (pa := []) (pv := []) hW' (fun _ _ _ => (trodAll_cons_mk (shut_bool Try.underlying4 _) trodAll_mk0)) (fun sp _ => (trodAll_cons_mk (shut_int Try.underlying22 w0) (trodAll_cons_mk (shut_int Try.underlying3 w1) (trodAll_cons_mk (shut_int Try.underlying3 w2) trodAll_mk0)))) (fun _ _ => rfl) rfl
    (hg.frame _) hg.2.1 (ok_one (by kernel_rfl) rfl (okWide_bool_mk Try.underlying4 _))⟩

theorem over : Rows.numTurnsRow.holds Try.pinned (OpenSpec.ofChange Rows.numTurnsSpec) :=
  OpenClaim.holds_of_wide 7 Try.f7 rfl rfl rfl rfl rfl rfl rfl ⟨rfl, rfl, rfl, rfl, rfl⟩ rfl rfl rfl rfl rfl (by kernel_rfl) Try.func7 (by kernel_rfl)
    (of_decide_eq_true (by kernel_rfl)) (by unfold Func.isWrapper; first | (rw [if_pos (by decide +kernel)]; kernel_rfl) | (rw [if_neg (by decide +kernel)]; exact ⟨rfl, rfl⟩))
    (fun os started H enc _ => lifted os started H enc)

/-- ████ THE STATEMENT ████ -/
theorem proved : Rows.NumTurnsSaid :=
  over
#print axioms proved
end Go.Proofs.Ytiihhgpmkodjmaa.LNumTurns
