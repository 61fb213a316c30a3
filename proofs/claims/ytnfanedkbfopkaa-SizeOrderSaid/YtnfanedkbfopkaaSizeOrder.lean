/- The statement SizeOrder is proved for every input, from contracts of the functions that it calls; no condition is added. -/
import Derived.Test.YtnfanedkbfopkaaRows
import Derived.Test.YtnfanedkbfopkaaSzW
import Derived.WalkKit
import Derived.ProofKit
import Derived.OpenShut
namespace Go.Proofs.Ytnfanedkbfopkaa.LSizeOrder
open Go.ChangeShapes Go.WideShapes Go.ChangeAt Go.RowKit
set_option linter.unusedVariables false      -- a walk need not use every 'w<i>' (that an integer argument fits its kind)

theorem own : ownKnob Try.prog.godebug = none := by kernel_rfl

/-! ### STEP 1: THE WALK: the Go text returns true. 'Grown w w'': the world has at most new blocks (Derived/RowKit3.lean). Part the cases AHEAD of 'go_enter' where a test parts the walk; take each callee by a contract of your own. -/
set_option maxHeartbeats 4000000 in
theorem walk (a0 : Int) (a1 : Int) (a2 : Int) (w0 : (Lit.int .i64 a0).wf = true) (w1 : (Lit.int .i64 a1).wf = true) (w2 : (Lit.int .i64 a2).wf = true) (w : World) :
    Calls Try.prog 9 #[.int .i64 a0, .int .i64 a1, .int .i64 a2] w fun e w' => e = .returned (.bool true) ∧ Grown w w' := by
  clear w0 w1 w2
  by_cases hs : a0 = 0
  · subst hs
    by_cases p1 : 0 ≤ a1 ∧ a1 < 4294967296
    · by_cases p2 : 0 ≤ a2 ∧ a2 < 4294967296
      · by_cases lt : a1 < a2
        · have A := Lib.hid (fun w => addr_is 0 a1 (4294967296 + a1) ⟨by decide, p1⟩ (by omega) w)
          have B := Lib.hid (fun w => addr_is 0 a2 (4294967296 + a2) ⟨by decide, p2⟩ (by omega) w)
          have C := Lib.hid (fun w => addr_is 1 a1 (8589934592 + a1) ⟨by decide, p1⟩ (by omega) w)
          have D := Lib.hid (fun w => addr_is 0 a2 (4294967296 + a2) ⟨by decide, p2⟩ (by omega) w)
          have q1 := p1.1
          have q2 := p1.2
          have q3 := p2.1
          have q4 := p2.2
          have y1 : (8589934592 + a1 == 0) = false := beq_eq_false_iff_ne.mpr (by omega)
          have y3 : (4294967296 + a1 == 0) = false := beq_eq_false_iff_ne.mpr (by omega)
          have x1 : (8589934592 + a1 != 0) = true := bne_iff_ne.mpr (by omega)
          have x3 : (4294967296 + a1 != 0) = true := bne_iff_ne.mpr (by omega)
          have x2 : (8589934592 + a2 != 0) = true := bne_iff_ne.mpr (by omega)
          have x4 : (4294967296 + a2 != 0) = true := bne_iff_ne.mpr (by omega)
          have v0 : decide (8589934592 + a1 ≤ 4294967296 + a2) = false := decide_eq_false (by omega)
          have v1 : decide (4294967296 + a1 < 4294967296 + a2) = true := decide_eq_true (by omega)
          have v2 : decide (a1 < a2) = true := decide_eq_true (by omega)
          clear p1 p2
          have hg := Grown.refl w
          go_enter Try.func9, Try.ntmps9
          go_wp2_with (fail)
          refine (shown_any _).mono ?_
          rintro e w' ⟨rfl, rfl⟩
          go_wp2_with (fail)
          refine (A.out _).mono ?_
          rintro e w' ⟨rfl, rfl⟩
          go_wp2_with (fail)
          refine (B.out _).mono ?_
          rintro e w' ⟨rfl, rfl⟩
          go_wp2_with (fail)
          refine (C.out _).mono ?_
          rintro e w' ⟨rfl, rfl⟩
          go_wp2_with (fail)
          refine (D.out _).mono ?_
          rintro e w' ⟨rfl, rfl⟩
          go_wp2_with (fail)
          refine (other_0 _).mono ?_
          rintro e w' ⟨rfl, rfl⟩
          go_wp2_with (fail)
          refine (other_1 1 (by decide) _).mono ?_
          rintro e w' ⟨rfl, rfl⟩
          go_wp2_with (fail)
          refine (other_0 _).mono ?_
          rintro e w' ⟨rfl, rfl⟩
          go_wp2
          go_ret
          exact ⟨rfl, hg⟩
        · have A := Lib.hid (fun w => addr_is 0 a1 (4294967296 + a1) ⟨by decide, p1⟩ (by omega) w)
          have B := Lib.hid (fun w => addr_is 0 a2 (4294967296 + a2) ⟨by decide, p2⟩ (by omega) w)
          have C := Lib.hid (fun w => addr_is 1 a1 (8589934592 + a1) ⟨by decide, p1⟩ (by omega) w)
          have D := Lib.hid (fun w => addr_is 0 a2 (4294967296 + a2) ⟨by decide, p2⟩ (by omega) w)
          have q1 := p1.1
          have q2 := p1.2
          have q3 := p2.1
          have q4 := p2.2
          have y1 : (8589934592 + a1 == 0) = false := beq_eq_false_iff_ne.mpr (by omega)
          have y3 : (4294967296 + a1 == 0) = false := beq_eq_false_iff_ne.mpr (by omega)
          have x1 : (8589934592 + a1 != 0) = true := bne_iff_ne.mpr (by omega)
          have x3 : (4294967296 + a1 != 0) = true := bne_iff_ne.mpr (by omega)
          have x2 : (8589934592 + a2 != 0) = true := bne_iff_ne.mpr (by omega)
          have x4 : (4294967296 + a2 != 0) = true := bne_iff_ne.mpr (by omega)
          have v0 : decide (8589934592 + a1 ≤ 4294967296 + a2) = false := decide_eq_false (by omega)
          have v1 : decide (4294967296 + a1 < 4294967296 + a2) = false := decide_eq_false (by omega)
          have v2 : decide (a1 < a2) = false := decide_eq_false (by omega)
          clear p1 p2
          have hg := Grown.refl w
          go_enter Try.func9, Try.ntmps9
          go_wp2_with (fail)
          refine (shown_any _).mono ?_
          rintro e w' ⟨rfl, rfl⟩
          go_wp2_with (fail)
          refine (A.out _).mono ?_
          rintro e w' ⟨rfl, rfl⟩
          go_wp2_with (fail)
          refine (B.out _).mono ?_
          rintro e w' ⟨rfl, rfl⟩
          go_wp2_with (fail)
          refine (C.out _).mono ?_
          rintro e w' ⟨rfl, rfl⟩
          go_wp2_with (fail)
          refine (D.out _).mono ?_
          rintro e w' ⟨rfl, rfl⟩
          go_wp2_with (fail)
          refine (other_0 _).mono ?_
          rintro e w' ⟨rfl, rfl⟩
          go_wp2_with (fail)
          refine (other_1 1 (by decide) _).mono ?_
          rintro e w' ⟨rfl, rfl⟩
          go_wp2_with (fail)
          refine (other_0 _).mono ?_
          rintro e w' ⟨rfl, rfl⟩
          go_wp2
          go_ret
          exact ⟨rfl, hg⟩
      · have A := Lib.hid (fun w => addr_is 0 a1 (4294967296 + a1) ⟨by decide, p1⟩ (by omega) w)
        have B := Lib.hid (fun w => addr_no 0 a2 (fun k => p2 k.2) w)
        have C := Lib.hid (fun w => addr_is 1 a1 (8589934592 + a1) ⟨by decide, p1⟩ (by omega) w)
        have D := Lib.hid (fun w => addr_no 0 a2 (fun k => p2 k.2) w)
        have q1 := p1.1
        have q2 := p1.2
        have y1 : (8589934592 + a1 == 0) = false := beq_eq_false_iff_ne.mpr (by omega)
        have y3 : (4294967296 + a1 == 0) = false := beq_eq_false_iff_ne.mpr (by omega)
        have x1 : (8589934592 + a1 != 0) = true := bne_iff_ne.mpr (by omega)
        have x3 : (4294967296 + a1 != 0) = true := bne_iff_ne.mpr (by omega)
        clear p1 p2
        have hg := Grown.refl w
        go_enter Try.func9, Try.ntmps9
        go_wp2_with (fail)
        refine (shown_any _).mono ?_
        rintro e w' ⟨rfl, rfl⟩
        go_wp2_with (fail)
        refine (A.out _).mono ?_
        rintro e w' ⟨rfl, rfl⟩
        go_wp2_with (fail)
        refine (B.out _).mono ?_
        rintro e w' ⟨rfl, rfl⟩
        go_wp2_with (fail)
        refine (C.out _).mono ?_
        rintro e w' ⟨rfl, rfl⟩
        go_wp2_with (fail)
        refine (D.out _).mono ?_
        rintro e w' ⟨rfl, rfl⟩
        go_wp2_with (fail)
        refine (other_0 _).mono ?_
        rintro e w' ⟨rfl, rfl⟩
        go_wp2_with (fail)
        refine (other_1 1 (by decide) _).mono ?_
        rintro e w' ⟨rfl, rfl⟩
        go_wp2_with (fail)
        refine (other_0 _).mono ?_
        rintro e w' ⟨rfl, rfl⟩
        go_wp2
        go_ret
        exact ⟨rfl, hg⟩
    · by_cases p2 : 0 ≤ a2 ∧ a2 < 4294967296
      · have A := Lib.hid (fun w => addr_no 0 a1 (fun k => p1 k.2) w)
        have B := Lib.hid (fun w => addr_is 0 a2 (4294967296 + a2) ⟨by decide, p2⟩ (by omega) w)
        have C := Lib.hid (fun w => addr_no 1 a1 (fun k => p1 k.2) w)
        have D := Lib.hid (fun w => addr_is 0 a2 (4294967296 + a2) ⟨by decide, p2⟩ (by omega) w)
        have q3 := p2.1
        have q4 := p2.2
        have x2 : (8589934592 + a2 != 0) = true := bne_iff_ne.mpr (by omega)
        have x4 : (4294967296 + a2 != 0) = true := bne_iff_ne.mpr (by omega)
        clear p1 p2
        have hg := Grown.refl w
        go_enter Try.func9, Try.ntmps9
        go_wp2_with (fail)
        refine (shown_any _).mono ?_
        rintro e w' ⟨rfl, rfl⟩
        go_wp2_with (fail)
        refine (A.out _).mono ?_
        rintro e w' ⟨rfl, rfl⟩
        go_wp2_with (fail)
        refine (B.out _).mono ?_
        rintro e w' ⟨rfl, rfl⟩
        go_wp2_with (fail)
        refine (C.out _).mono ?_
        rintro e w' ⟨rfl, rfl⟩
        go_wp2_with (fail)
        refine (D.out _).mono ?_
        rintro e w' ⟨rfl, rfl⟩
        go_wp2_with (fail)
        refine (other_0 _).mono ?_
        rintro e w' ⟨rfl, rfl⟩
        go_wp2_with (fail)
        refine (other_1 1 (by decide) _).mono ?_
        rintro e w' ⟨rfl, rfl⟩
        go_wp2_with (fail)
        refine (other_0 _).mono ?_
        rintro e w' ⟨rfl, rfl⟩
        go_wp2
        go_ret
        exact ⟨rfl, hg⟩
      · have A := Lib.hid (fun w => addr_no 0 a1 (fun k => p1 k.2) w)
        have B := Lib.hid (fun w => addr_no 0 a2 (fun k => p2 k.2) w)
        have C := Lib.hid (fun w => addr_no 1 a1 (fun k => p1 k.2) w)
        have D := Lib.hid (fun w => addr_no 0 a2 (fun k => p2 k.2) w)
        clear p1 p2
        have hg := Grown.refl w
        go_enter Try.func9, Try.ntmps9
        go_wp2_with (fail)
        refine (shown_any _).mono ?_
        rintro e w' ⟨rfl, rfl⟩
        go_wp2_with (fail)
        refine (A.out _).mono ?_
        rintro e w' ⟨rfl, rfl⟩
        go_wp2_with (fail)
        refine (B.out _).mono ?_
        rintro e w' ⟨rfl, rfl⟩
        go_wp2_with (fail)
        refine (C.out _).mono ?_
        rintro e w' ⟨rfl, rfl⟩
        go_wp2_with (fail)
        refine (D.out _).mono ?_
        rintro e w' ⟨rfl, rfl⟩
        go_wp2_with (fail)
        refine (other_0 _).mono ?_
        rintro e w' ⟨rfl, rfl⟩
        go_wp2_with (fail)
        refine (other_1 1 (by decide) _).mono ?_
        rintro e w' ⟨rfl, rfl⟩
        go_wp2_with (fail)
        refine (other_0 _).mono ?_
        rintro e w' ⟨rfl, rfl⟩
        go_wp2
        go_ret
        exact ⟨rfl, hg⟩
  by_cases ht : a0 = 1
  · subst ht
    by_cases p1 : 0 ≤ a1 ∧ a1 < 4294967296
    · by_cases p2 : 0 ≤ a2 ∧ a2 < 4294967296
      · by_cases lt : a1 < a2
        · have A := Lib.hid (fun w => addr_is 1 a1 (8589934592 + a1) ⟨by decide, p1⟩ (by omega) w)
          have B := Lib.hid (fun w => addr_is 1 a2 (8589934592 + a2) ⟨by decide, p2⟩ (by omega) w)
          have C := Lib.hid (fun w => addr_is 1 a1 (8589934592 + a1) ⟨by decide, p1⟩ (by omega) w)
          have D := Lib.hid (fun w => addr_is 0 a2 (4294967296 + a2) ⟨by decide, p2⟩ (by omega) w)
          have q1 := p1.1
          have q2 := p1.2
          have q3 := p2.1
          have q4 := p2.2
          have y1 : (8589934592 + a1 == 0) = false := beq_eq_false_iff_ne.mpr (by omega)
          have y3 : (4294967296 + a1 == 0) = false := beq_eq_false_iff_ne.mpr (by omega)
          have x1 : (8589934592 + a1 != 0) = true := bne_iff_ne.mpr (by omega)
          have x3 : (4294967296 + a1 != 0) = true := bne_iff_ne.mpr (by omega)
          have x2 : (8589934592 + a2 != 0) = true := bne_iff_ne.mpr (by omega)
          have x4 : (4294967296 + a2 != 0) = true := bne_iff_ne.mpr (by omega)
          have v0 : decide (8589934592 + a1 ≤ 4294967296 + a2) = false := decide_eq_false (by omega)
          have v1 : decide (8589934592 + a1 < 8589934592 + a2) = true := decide_eq_true (by omega)
          have v2 : decide (a1 < a2) = true := decide_eq_true (by omega)
          clear p1 p2
          have hg := Grown.refl w
          go_enter Try.func9, Try.ntmps9
          go_wp2_with (fail)
          refine (shown_any _).mono ?_
          rintro e w' ⟨rfl, rfl⟩
          go_wp2_with (fail)
          refine (A.out _).mono ?_
          rintro e w' ⟨rfl, rfl⟩
          go_wp2_with (fail)
          refine (B.out _).mono ?_
          rintro e w' ⟨rfl, rfl⟩
          go_wp2_with (fail)
          refine (C.out _).mono ?_
          rintro e w' ⟨rfl, rfl⟩
          go_wp2_with (fail)
          refine (D.out _).mono ?_
          rintro e w' ⟨rfl, rfl⟩
          go_wp2_with (fail)
          refine (other_1 1 (by decide) _).mono ?_
          rintro e w' ⟨rfl, rfl⟩
          go_wp2_with (fail)
          refine (other_0 _).mono ?_
          rintro e w' ⟨rfl, rfl⟩
          go_wp2_with (fail)
          refine (other_1 1 (by decide) _).mono ?_
          rintro e w' ⟨rfl, rfl⟩
          go_wp2
          go_ret
          exact ⟨rfl, hg⟩
        · have A := Lib.hid (fun w => addr_is 1 a1 (8589934592 + a1) ⟨by decide, p1⟩ (by omega) w)
          have B := Lib.hid (fun w => addr_is 1 a2 (8589934592 + a2) ⟨by decide, p2⟩ (by omega) w)
          have C := Lib.hid (fun w => addr_is 1 a1 (8589934592 + a1) ⟨by decide, p1⟩ (by omega) w)
          have D := Lib.hid (fun w => addr_is 0 a2 (4294967296 + a2) ⟨by decide, p2⟩ (by omega) w)
          have q1 := p1.1
          have q2 := p1.2
          have q3 := p2.1
          have q4 := p2.2
          have y1 : (8589934592 + a1 == 0) = false := beq_eq_false_iff_ne.mpr (by omega)
          have y3 : (4294967296 + a1 == 0) = false := beq_eq_false_iff_ne.mpr (by omega)
          have x1 : (8589934592 + a1 != 0) = true := bne_iff_ne.mpr (by omega)
          have x3 : (4294967296 + a1 != 0) = true := bne_iff_ne.mpr (by omega)
          have x2 : (8589934592 + a2 != 0) = true := bne_iff_ne.mpr (by omega)
          have x4 : (4294967296 + a2 != 0) = true := bne_iff_ne.mpr (by omega)
          have v0 : decide (8589934592 + a1 ≤ 4294967296 + a2) = false := decide_eq_false (by omega)
          have v1 : decide (8589934592 + a1 < 8589934592 + a2) = false := decide_eq_false (by omega)
          have v2 : decide (a1 < a2) = false := decide_eq_false (by omega)
          clear p1 p2
          have hg := Grown.refl w
          go_enter Try.func9, Try.ntmps9
          go_wp2_with (fail)
          refine (shown_any _).mono ?_
          rintro e w' ⟨rfl, rfl⟩
          go_wp2_with (fail)
          refine (A.out _).mono ?_
          rintro e w' ⟨rfl, rfl⟩
          go_wp2_with (fail)
          refine (B.out _).mono ?_
          rintro e w' ⟨rfl, rfl⟩
          go_wp2_with (fail)
          refine (C.out _).mono ?_
          rintro e w' ⟨rfl, rfl⟩
          go_wp2_with (fail)
          refine (D.out _).mono ?_
          rintro e w' ⟨rfl, rfl⟩
          go_wp2_with (fail)
          refine (other_1 1 (by decide) _).mono ?_
          rintro e w' ⟨rfl, rfl⟩
          go_wp2_with (fail)
          refine (other_0 _).mono ?_
          rintro e w' ⟨rfl, rfl⟩
          go_wp2_with (fail)
          refine (other_1 1 (by decide) _).mono ?_
          rintro e w' ⟨rfl, rfl⟩
          go_wp2
          go_ret
          exact ⟨rfl, hg⟩
      · have A := Lib.hid (fun w => addr_is 1 a1 (8589934592 + a1) ⟨by decide, p1⟩ (by omega) w)
        have B := Lib.hid (fun w => addr_no 1 a2 (fun k => p2 k.2) w)
        have C := Lib.hid (fun w => addr_is 1 a1 (8589934592 + a1) ⟨by decide, p1⟩ (by omega) w)
        have D := Lib.hid (fun w => addr_no 0 a2 (fun k => p2 k.2) w)
        have q1 := p1.1
        have q2 := p1.2
        have y1 : (8589934592 + a1 == 0) = false := beq_eq_false_iff_ne.mpr (by omega)
        have y3 : (4294967296 + a1 == 0) = false := beq_eq_false_iff_ne.mpr (by omega)
        have x1 : (8589934592 + a1 != 0) = true := bne_iff_ne.mpr (by omega)
        have x3 : (4294967296 + a1 != 0) = true := bne_iff_ne.mpr (by omega)
        clear p1 p2
        have hg := Grown.refl w
        go_enter Try.func9, Try.ntmps9
        go_wp2_with (fail)
        refine (shown_any _).mono ?_
        rintro e w' ⟨rfl, rfl⟩
        go_wp2_with (fail)
        refine (A.out _).mono ?_
        rintro e w' ⟨rfl, rfl⟩
        go_wp2_with (fail)
        refine (B.out _).mono ?_
        rintro e w' ⟨rfl, rfl⟩
        go_wp2_with (fail)
        refine (C.out _).mono ?_
        rintro e w' ⟨rfl, rfl⟩
        go_wp2_with (fail)
        refine (D.out _).mono ?_
        rintro e w' ⟨rfl, rfl⟩
        go_wp2_with (fail)
        refine (other_1 1 (by decide) _).mono ?_
        rintro e w' ⟨rfl, rfl⟩
        go_wp2_with (fail)
        refine (other_0 _).mono ?_
        rintro e w' ⟨rfl, rfl⟩
        go_wp2_with (fail)
        refine (other_1 1 (by decide) _).mono ?_
        rintro e w' ⟨rfl, rfl⟩
        go_wp2
        go_ret
        exact ⟨rfl, hg⟩
    · by_cases p2 : 0 ≤ a2 ∧ a2 < 4294967296
      · have A := Lib.hid (fun w => addr_no 1 a1 (fun k => p1 k.2) w)
        have B := Lib.hid (fun w => addr_is 1 a2 (8589934592 + a2) ⟨by decide, p2⟩ (by omega) w)
        have C := Lib.hid (fun w => addr_no 1 a1 (fun k => p1 k.2) w)
        have D := Lib.hid (fun w => addr_is 0 a2 (4294967296 + a2) ⟨by decide, p2⟩ (by omega) w)
        have q3 := p2.1
        have q4 := p2.2
        have x2 : (8589934592 + a2 != 0) = true := bne_iff_ne.mpr (by omega)
        have x4 : (4294967296 + a2 != 0) = true := bne_iff_ne.mpr (by omega)
        clear p1 p2
        have hg := Grown.refl w
        go_enter Try.func9, Try.ntmps9
        go_wp2_with (fail)
        refine (shown_any _).mono ?_
        rintro e w' ⟨rfl, rfl⟩
        go_wp2_with (fail)
        refine (A.out _).mono ?_
        rintro e w' ⟨rfl, rfl⟩
        go_wp2_with (fail)
        refine (B.out _).mono ?_
        rintro e w' ⟨rfl, rfl⟩
        go_wp2_with (fail)
        refine (C.out _).mono ?_
        rintro e w' ⟨rfl, rfl⟩
        go_wp2_with (fail)
        refine (D.out _).mono ?_
        rintro e w' ⟨rfl, rfl⟩
        go_wp2_with (fail)
        refine (other_1 1 (by decide) _).mono ?_
        rintro e w' ⟨rfl, rfl⟩
        go_wp2_with (fail)
        refine (other_0 _).mono ?_
        rintro e w' ⟨rfl, rfl⟩
        go_wp2_with (fail)
        refine (other_1 1 (by decide) _).mono ?_
        rintro e w' ⟨rfl, rfl⟩
        go_wp2
        go_ret
        exact ⟨rfl, hg⟩
      · have A := Lib.hid (fun w => addr_no 1 a1 (fun k => p1 k.2) w)
        have B := Lib.hid (fun w => addr_no 1 a2 (fun k => p2 k.2) w)
        have C := Lib.hid (fun w => addr_no 1 a1 (fun k => p1 k.2) w)
        have D := Lib.hid (fun w => addr_no 0 a2 (fun k => p2 k.2) w)
        clear p1 p2
        have hg := Grown.refl w
        go_enter Try.func9, Try.ntmps9
        go_wp2_with (fail)
        refine (shown_any _).mono ?_
        rintro e w' ⟨rfl, rfl⟩
        go_wp2_with (fail)
        refine (A.out _).mono ?_
        rintro e w' ⟨rfl, rfl⟩
        go_wp2_with (fail)
        refine (B.out _).mono ?_
        rintro e w' ⟨rfl, rfl⟩
        go_wp2_with (fail)
        refine (C.out _).mono ?_
        rintro e w' ⟨rfl, rfl⟩
        go_wp2_with (fail)
        refine (D.out _).mono ?_
        rintro e w' ⟨rfl, rfl⟩
        go_wp2_with (fail)
        refine (other_1 1 (by decide) _).mono ?_
        rintro e w' ⟨rfl, rfl⟩
        go_wp2_with (fail)
        refine (other_0 _).mono ?_
        rintro e w' ⟨rfl, rfl⟩
        go_wp2_with (fail)
        refine (other_1 1 (by decide) _).mono ?_
        rintro e w' ⟨rfl, rfl⟩
        go_wp2
        go_ret
        exact ⟨rfl, hg⟩
  have hn : ¬ (a0 = 0 ∨ a0 = 1) := by omega
  clear hs ht
  by_cases p1 : 0 ≤ a1 ∧ a1 < 4294967296
  · by_cases p2 : 0 ≤ a2 ∧ a2 < 4294967296
    · have A := Lib.hid (fun w => addr_no a0 a1 (fun k => hn k.1) w)
      have B := Lib.hid (fun w => addr_no a0 a2 (fun k => hn k.1) w)
      have C := Lib.hid (fun w => addr_is 1 a1 (8589934592 + a1) ⟨by decide, p1⟩ (by omega) w)
      have D := Lib.hid (fun w => addr_is 0 a2 (4294967296 + a2) ⟨by decide, p2⟩ (by omega) w)
      have q1 := p1.1
      have q2 := p1.2
      have q3 := p2.1
      have q4 := p2.2
      have y1 : (8589934592 + a1 == 0) = false := beq_eq_false_iff_ne.mpr (by omega)
      have y3 : (4294967296 + a1 == 0) = false := beq_eq_false_iff_ne.mpr (by omega)
      have x1 : (8589934592 + a1 != 0) = true := bne_iff_ne.mpr (by omega)
      have x3 : (4294967296 + a1 != 0) = true := bne_iff_ne.mpr (by omega)
      have x2 : (8589934592 + a2 != 0) = true := bne_iff_ne.mpr (by omega)
      have x4 : (4294967296 + a2 != 0) = true := bne_iff_ne.mpr (by omega)
      have v0 : decide (8589934592 + a1 ≤ 4294967296 + a2) = false := decide_eq_false (by omega)
      have n0 : (a0 != 0) = true := bne_iff_ne.mpr (fun k => hn (.inl k))
      have n1 : (a0 != 1) = true := bne_iff_ne.mpr (fun k => hn (.inr k))
      clear hn
      clear p1 p2
      have hg := Grown.refl w
      go_enter Try.func9, Try.ntmps9
      go_wp2_with (fail)
      refine (shown_any _).mono ?_
      rintro e w' ⟨rfl, rfl⟩
      go_wp2_with (fail)
      refine (A.out _).mono ?_
      rintro e w' ⟨rfl, rfl⟩
      go_wp2_with (fail)
      refine (B.out _).mono ?_
      rintro e w' ⟨rfl, rfl⟩
      go_wp2_with (fail)
      refine (C.out _).mono ?_
      rintro e w' ⟨rfl, rfl⟩
      go_wp2_with (fail)
      refine (D.out _).mono ?_
      rintro e w' ⟨rfl, rfl⟩
      go_wp2
      go_ret
      exact ⟨rfl, hg⟩
    · have A := Lib.hid (fun w => addr_no a0 a1 (fun k => hn k.1) w)
      have B := Lib.hid (fun w => addr_no a0 a2 (fun k => hn k.1) w)
      have C := Lib.hid (fun w => addr_is 1 a1 (8589934592 + a1) ⟨by decide, p1⟩ (by omega) w)
      have D := Lib.hid (fun w => addr_no 0 a2 (fun k => p2 k.2) w)
      have q1 := p1.1
      have q2 := p1.2
      have y1 : (8589934592 + a1 == 0) = false := beq_eq_false_iff_ne.mpr (by omega)
      have y3 : (4294967296 + a1 == 0) = false := beq_eq_false_iff_ne.mpr (by omega)
      have x1 : (8589934592 + a1 != 0) = true := bne_iff_ne.mpr (by omega)
      have x3 : (4294967296 + a1 != 0) = true := bne_iff_ne.mpr (by omega)
      have n0 : (a0 != 0) = true := bne_iff_ne.mpr (fun k => hn (.inl k))
      have n1 : (a0 != 1) = true := bne_iff_ne.mpr (fun k => hn (.inr k))
      clear hn
      clear p1 p2
      have hg := Grown.refl w
      go_enter Try.func9, Try.ntmps9
      go_wp2_with (fail)
      refine (shown_any _).mono ?_
      rintro e w' ⟨rfl, rfl⟩
      go_wp2_with (fail)
      refine (A.out _).mono ?_
      rintro e w' ⟨rfl, rfl⟩
      go_wp2_with (fail)
      refine (B.out _).mono ?_
      rintro e w' ⟨rfl, rfl⟩
      go_wp2_with (fail)
      refine (C.out _).mono ?_
      rintro e w' ⟨rfl, rfl⟩
      go_wp2_with (fail)
      refine (D.out _).mono ?_
      rintro e w' ⟨rfl, rfl⟩
      go_wp2
      go_ret
      exact ⟨rfl, hg⟩
  · by_cases p2 : 0 ≤ a2 ∧ a2 < 4294967296
    · have A := Lib.hid (fun w => addr_no a0 a1 (fun k => hn k.1) w)
      have B := Lib.hid (fun w => addr_no a0 a2 (fun k => hn k.1) w)
      have C := Lib.hid (fun w => addr_no 1 a1 (fun k => p1 k.2) w)
      have D := Lib.hid (fun w => addr_is 0 a2 (4294967296 + a2) ⟨by decide, p2⟩ (by omega) w)
      have q3 := p2.1
      have q4 := p2.2
      have x2 : (8589934592 + a2 != 0) = true := bne_iff_ne.mpr (by omega)
      have x4 : (4294967296 + a2 != 0) = true := bne_iff_ne.mpr (by omega)
      have n0 : (a0 != 0) = true := bne_iff_ne.mpr (fun k => hn (.inl k))
      have n1 : (a0 != 1) = true := bne_iff_ne.mpr (fun k => hn (.inr k))
      clear hn
      clear p1 p2
      have hg := Grown.refl w
      go_enter Try.func9, Try.ntmps9
      go_wp2_with (fail)
      refine (shown_any _).mono ?_
      rintro e w' ⟨rfl, rfl⟩
      go_wp2_with (fail)
      refine (A.out _).mono ?_
      rintro e w' ⟨rfl, rfl⟩
      go_wp2_with (fail)
      refine (B.out _).mono ?_
      rintro e w' ⟨rfl, rfl⟩
      go_wp2_with (fail)
      refine (C.out _).mono ?_
      rintro e w' ⟨rfl, rfl⟩
      go_wp2_with (fail)
      refine (D.out _).mono ?_
      rintro e w' ⟨rfl, rfl⟩
      go_wp2
      go_ret
      exact ⟨rfl, hg⟩
    · have A := Lib.hid (fun w => addr_no a0 a1 (fun k => hn k.1) w)
      have B := Lib.hid (fun w => addr_no a0 a2 (fun k => hn k.1) w)
      have C := Lib.hid (fun w => addr_no 1 a1 (fun k => p1 k.2) w)
      have D := Lib.hid (fun w => addr_no 0 a2 (fun k => p2 k.2) w)
      have n0 : (a0 != 0) = true := bne_iff_ne.mpr (fun k => hn (.inl k))
      have n1 : (a0 != 1) = true := bne_iff_ne.mpr (fun k => hn (.inr k))
      clear hn
      clear p1 p2
      have hg := Grown.refl w
      go_enter Try.func9, Try.ntmps9
      go_wp2_with (fail)
      refine (shown_any _).mono ?_
      rintro e w' ⟨rfl, rfl⟩
      go_wp2_with (fail)
      refine (A.out _).mono ?_
      rintro e w' ⟨rfl, rfl⟩
      go_wp2_with (fail)
      refine (B.out _).mono ?_
      rintro e w' ⟨rfl, rfl⟩
      go_wp2_with (fail)
      refine (C.out _).mono ?_
      rintro e w' ⟨rfl, rfl⟩
      go_wp2_with (fail)
      refine (D.out _).mono ?_
      rintro e w' ⟨rfl, rfl⟩
      go_wp2
      go_ret
      exact ⟨rfl, hg⟩

/-! ### THE ROW's STEP: WRITTEN OUT: LEAVE IT -/
set_option maxRecDepth 100000 in
theorem lifted (os : Os) (started : os.Started) (H : Type) (enc : TypeId × Value → H) :
    ReturnsInHanded {} Try.checked os 9 .any (Rows.sizeOrderSpec.pre6 enc Try.prog Try.f9 Rows.sizeOrderRow.domain false) (Rows.sizeOrderSpec.post enc Try.prog Try.f9 false true false false) := by
  refine returnsInHanded_of_change (C := Try.checked) own started (by kernel_rfl) Try.func9
    (ChangeSpec.witness6 (enc := enc) (C := Try.checked) false ⟨#[], #[.int .i64 0, .int .i64 0, .int .i64 0], []⟩ 8 (by kernel_rfl) (by kernel_rfl) (by kernel_rfl) (by kernel_rfl)) ?_
  intro W base args ds gs before hval0 hW hcnd _
  have hval : ∀ (j : Nat) t v, Try.f9.params[j]? = some t → args[j]? = some v → Value.okWide Try.prog W .any base t v := hval0
  have hW' := hW
  obtain ⟨p, q, hA0, hV, rfl, hfz, hnd⟩ := hW
  have hA : DataW.TrodAll enc Try.prog W 0 (fun _ => true) true Try.f9.params.toList args.toList ds p := hA0
  rw [Try.params9] at hA hval
  obtain ⟨v0, vs0, d0, ds0, p0, q0, hargs, rfl, rfl, h0, r0⟩ := trodAll_cons hA
  obtain ⟨v1, vs1, d1, ds1, p1, q1, rfl, rfl, rfl, h1, r1⟩ := trodAll_cons r0
  obtain ⟨v2, vs2, d2, ds2, p2, q2, rfl, rfl, rfl, h2, r2⟩ := trodAll_cons r1
  obtain ⟨rfl, rfl, rfl⟩ := trodAll_nil r2
  obtain rfl : args = #[v0, v1, v2] := by cases args; simp_all
  obtain ⟨rfl, rfl⟩ := trodVars_none hV
  obtain ⟨a0, rfl, rfl, rfl, w0⟩ := open_int Try.underlying3 (hval 0 3 v0 rfl rfl) h0
  obtain ⟨a1, rfl, rfl, rfl, w1⟩ := open_int Try.underlying3 (hval 1 3 v1 rfl rfl) h1
  obtain ⟨a2, rfl, rfl, rfl, w2⟩ := open_int Try.underlying3 (hval 2 3 v2 rfl rfl) h2
  clear hA0 hval0
  simp only [List.append_nil] at hW'
  refine (walk a0 a1 a2 w0 w1 w2 W).mono fun e W' ⟨he, hg⟩ => ?_
  subst he
  exact ⟨_, rfl, post_of_same (pa := []) (pv := []) hW' (fun _ _ _ => (trodAll_cons_mk (shut_bool Try.underlying4 _) trodAll_mk0)) (fun sp _ => (trodAll_cons_mk (shut_int Try.underlying3 w0) (trodAll_cons_mk (shut_int Try.underlying3 w1) (trodAll_cons_mk (shut_int Try.underlying3 w2) trodAll_mk0)))) (fun _ _ => rfl) rfl
    (hg.frame _) hg.2.1 (ok_one (by kernel_rfl) rfl (okWide_bool_mk Try.underlying4 _))⟩

theorem over : Rows.sizeOrderRow.holds Try.pinned (OpenSpec.ofChange Rows.sizeOrderSpec) :=
  OpenClaim.holds_of_wide 9 Try.f9 rfl rfl rfl rfl rfl rfl rfl ⟨rfl, rfl, rfl, rfl, rfl⟩ rfl rfl rfl rfl rfl (by kernel_rfl) Try.func9 (by kernel_rfl)
    (of_decide_eq_true (by kernel_rfl)) (by unfold Func.isWrapper; first | (rw [if_pos (by decide +kernel)]; kernel_rfl) | (rw [if_neg (by decide +kernel)]; exact ⟨rfl, rfl⟩))
    (fun os started H enc _ => lifted os started H enc)

/-- ████ THE STATEMENT ████ -/
theorem proved : Rows.SizeOrderSaid :=
  over
#print axioms proved
end Go.Proofs.Ytnfanedkbfopkaa.LSizeOrder
