/- The program's own sizes and addresses (package size) are as the document says: contracts of its functions, for every number. -/
import Derived.Test.YtgcpkgogjcgfbaaRows
import Derived.WalkKit
import Derived.ProofKit
import Derived.OpenShut
import Derived.WalkLawsBesides
import Derived.Lib.Hide
import Derived.Laws.StructEq
import Derived.Laws.MathBits
import Derived.Laws.Rows
import Derived.LoopN
import Derived.Below
import Derived.Deep.Draws
namespace Go.Proofs.Ytgcpkgogjcgfbaa
open Go.ChangeShapes Go.WideShapes Go.ChangeAt Go.RowKit
set_option linter.unusedVariables false

/-- The world has grown; what was there is as it was. -/
def Up (w w' : World) : Prop := Below w.heap.size w w'
theorem Up.refl (w : World) : Up w w := Below.refl _ _
theorem Up.trans {a b c : World} (h : Up a b) (k : Up b c) : Up a c := Below.trans (B := a.heap.size) h (Below.mono k h.size)
theorem Up.alloc {a b : World} (h : Up a b) (o : Obj) : Up a (b.alloc o) := Below.alloc h h.size o
theorem Up.setCell {a b : World} (h : Up a b) {p : Addr} (hp : a.heap.size ≤ p.block) (u : Value) : Up a (b.setCell p u) := Below.setCell h hp u
theorem Up.drew {a b : World} (h : Up a b) : Up a b.drew := Below.drew h
theorem Up.drewN {a b : World} (h : Up a b) (n : Nat) : Up a (b.drewN n) := ⟨h.os, h.tape, h.output, h.size, h.block⟩

theorem ret_int {k : IntKind} {a b : Int} (h : a = b) : Ending.returned (.int k a) = .returned (.int k b) := by rw [h]

/-- A whole number of the machine. -/
def I64 (a : Int) : Prop := -9223372036854775808 ≤ a ∧ a ≤ 9223372036854775807

/-- May the two be summed? -/
def sumok (a b : Int) : Prop := 0 ≤ a ∧ 0 ≤ b ∧ a + b ≤ 9223372036854775807
instance decSum (a b : Int) : Decidable (sumok a b) := by unfold sumok; infer_instance

set_option maxHeartbeats 400000 in
theorem add_ok (a b : Int) (h : sumok a b) (w : World) :
    Calls Try.prog 100 #[.int .i64 a, .int .i64 b] w fun e w' => e = .returned (.tuple #[.int .i64 (a + b), .bool true]) ∧ Up w w' := by
  obtain ⟨h0, h1, h2⟩ := h
  have n0 : ¬ a < 0 := by omega
  have n1 : ¬ b < 0 := by omega
  have n2 : ¬ (9223372036854775807 - b < a) := by omega
  have u0 : a ≤ 9223372036854775807 := by omega
  have u1 : b ≤ 9223372036854775807 := by omega
  go_enter Try.func100, Try.ntmps100
  go_wp2
  go_ret2
  exact ⟨rfl, ((Up.refl _).alloc _).alloc _⟩

set_option maxHeartbeats 400000 in
theorem add_no (a b : Int) (ha : I64 a) (hb : I64 b) (h : ¬ sumok a b) (w : World) :
    Calls Try.prog 100 #[.int .i64 a, .int .i64 b] w fun e w' => e = .returned (.tuple #[.int .i64 0, .bool false]) ∧ Up w w' := by
  obtain ⟨a0, a1⟩ := ha
  obtain ⟨b0, b1⟩ := hb
  unfold sumok at h
  by_cases n0 : a < 0
  · go_enter Try.func100, Try.ntmps100
    go_wp2
    go_ret2
    exact ⟨rfl, ((Up.refl _).alloc _).alloc _⟩
  by_cases n1 : b < 0
  · go_enter Try.func100, Try.ntmps100
    go_wp2
    go_ret2
    exact ⟨rfl, ((Up.refl _).alloc _).alloc _⟩
  have n2 : 9223372036854775807 - b < a := by omega
  have m1 : 0 ≤ b := by omega
  clear h
  go_enter Try.func100, Try.ntmps100
  go_wp2
  go_ret2
  exact ⟨rfl, ((Up.refl _).alloc _).alloc _⟩

/-- Does it fit? -/
def fit (a n words : Int) : Prop := 0 ≤ a ∧ 0 ≤ n ∧ a + n ≤ words
instance decFit (a n words : Int) : Decidable (fit a n words) := by unfold fit; infer_instance

set_option maxHeartbeats 400000 in
theorem fits_yes (a n m : Int) (hm : I64 m) (h : fit a n m) (w : World) :
    Calls Try.prog 97 #[.int .i64 a, .int .i64 n, .int .i64 m] w fun e w' => e = .returned (.bool true) ∧ Up w w' := by
  obtain ⟨h0, h1, h2⟩ := h
  have hs := Lib.hid (show sumok a n from ⟨h0, h1, Int.le_trans h2 hm.2⟩)
  clear hm
  go_enter Try.func97, Try.ntmps97
  go_wp2_with (fail)
  refine (add_ok a n hs.out _).mono ?_
  rintro e w' ⟨rfl, hg⟩
  go_wp2
  go_ret
  exact ⟨rfl, hg⟩

set_option maxHeartbeats 400000 in
theorem fits_no (a n m : Int) (ha : I64 a) (hn : I64 n) (h : ¬ fit a n m) (w : World) :
    Calls Try.prog 97 #[.int .i64 a, .int .i64 n, .int .i64 m] w fun e w' => e = .returned (.bool false) ∧ Up w w' := by
  by_cases hs : sumok a n
  · have k : m < a + n := by unfold fit at h; unfold sumok at hs; omega
    have hd : decide (a + n ≤ m) = false := decide_eq_false (by omega)
    have hs := Lib.hid hs
    clear h ha hn
    go_enter Try.func97, Try.ntmps97
    go_wp2_with (fail)
    refine (add_ok a n hs.out _).mono ?_
    rintro e w' ⟨rfl, hg⟩
    go_wp2
    go_ret
    exact ⟨rfl, hg⟩
  · have hs := Lib.hid hs
    have ha := Lib.hid ha
    have hn := Lib.hid hn
    clear h
    go_enter Try.func97, Try.ntmps97
    go_wp2_with (fail)
    refine (add_no a n ha.out hn.out hs.out _).mono ?_
    rintro e w' ⟨rfl, hg⟩
    go_wp2
    go_ret
    exact ⟨rfl, hg⟩
theorem w64_low (a : Int) (h0 : 0 ≤ a) (h1 : a ≤ 18446744073709551615) : wrap64 (bits BinOp.and IntKind.u64 a 4294967295) = a % 4294967296 := by
  rw [and_low32 a h0 (by omega)]; unfold wrap64; omega

set_option maxHeartbeats 400000 in
theorem apart_any (a : Int) (h0 : 0 ≤ a) (h1 : a ≤ 18446744073709551615) (w : World) :
    Calls Try.prog 85 #[.int .u64 a] w fun e w' => e = .returned (.agg #[.int .i64 (a / 4294967296 - 1), .int .i64 (a % 4294967296)]) ∧ Up w w' := by
  have hm := Lib.hid (w64_low a h0 h1)
  go_enter Try.func85, Try.ntmps85
  go_wp2
  rw [hm.out]
  refine bodyPost_ret (results_cell_row rfl _ _ w.heap.size 120 _ _ _ rfl (heap_alloc_new _ _) Try.underlying120 rfl (by kernel_rfl)) rfl ?_
  exact ⟨rfl, (Up.refl _).alloc _⟩

theorem fieldsOf_of {P : Program} {t : TypeId} {fs : Array Field} (h : P.underlying t = some (.struct fs)) : P.fieldsOf t = fs := by unfold Program.fieldsOf; rw [h]

theorem eq_place (s p t q : Int) (w : World) : (binOp .eql 120 (.agg #[.int .i64 s, .int .i64 p]) (.agg #[.int .i64 t, .int .i64 q])).run Try.prog w = .ok (.bool (s == t && p == q)) w := by
  rw [run_eql_struct, run_equalIn_agg _ _ _ _ _ (by rw [fieldsOf_of Try.underlying120]; exact Try.underlying120) (by kernel_rfl), fieldsOf_of Try.underlying120]
  simp [Op.eqFields, go_sem]
  by_cases h : s = t <;> by_cases k : p = q <;> simp [h, k]

set_option maxHeartbeats 400000 in
theorem where_0 (a p : Int) (h0 : 0 ≤ a) (h1 : a ≤ 18446744073709551615) (hq : a / 4294967296 - 1 = 0) (hp : a % 4294967296 = p) (w : World) :
    Calls Try.prog 64 #[.int .u64 a] w fun e w' => e = .returned (.tuple #[.int .i64 0, .int .i64 p, .bool true]) ∧ Up w w' := by
  have ha := Lib.hid (apart_any a h0 h1)
  rw [hq, hp] at ha
  clear hq hp h0 h1
  have he : ∀ w, (binOp .eql 120 (.agg #[.int .i64 0, .int .i64 p]) (.agg #[.int .i64 0, .int .i64 p])).run Try.prog w = .ok (.bool true) w := fun w => by rw [eq_place]; simp
  go_enter Try.func64, Try.ntmps64
  go_wp2_with (fail)
  refine (ha.out _).mono ?_
  rintro e w' ⟨rfl, hg⟩
  go_wp2
  refine wp_loop_rounds 1 ?_
  rw [rounds_succ]
  go_wp2
  go_region
  go_wp2
  go_ret3
  exact ⟨rfl, (hg.alloc _).drew⟩

set_option maxHeartbeats 800000 in
theorem where_1 (a p : Int) (h0 : 0 ≤ a) (h1 : a ≤ 18446744073709551615) (hq : a / 4294967296 - 1 = 1) (hp : a % 4294967296 = p) (w : World) :
    Calls Try.prog 64 #[.int .u64 a] w fun e w' => e = .returned (.tuple #[.int .i64 1, .int .i64 p, .bool true]) ∧ Up w w' := by
  have ha := Lib.hid (apart_any a h0 h1)
  rw [hq, hp] at ha
  clear hq hp h0 h1
  have he0 : ∀ w, (binOp .eql 120 (.agg #[.int .i64 1, .int .i64 p]) (.agg #[.int .i64 0, .int .i64 p])).run Try.prog w = .ok (.bool false) w := fun w => by rw [eq_place]; simp
  have he : ∀ w, (binOp .eql 120 (.agg #[.int .i64 1, .int .i64 p]) (.agg #[.int .i64 1, .int .i64 p])).run Try.prog w = .ok (.bool true) w := fun w => by rw [eq_place]; simp
  go_enter Try.func64, Try.ntmps64
  go_wp2_with (fail)
  refine (ha.out _).mono ?_
  rintro e w' ⟨rfl, hg⟩
  go_wp2
  refine wp_loop_rounds 2 ?_
  rw [rounds_succ]
  go_wp2
  rw [rounds_succ]
  go_wp2
  go_region
  go_wp2
  go_ret3
  exact ⟨rfl, (hg.alloc _).drew⟩

set_option maxHeartbeats 800000 in
theorem where_no (a q p : Int) (h0 : 0 ≤ a) (h1 : a ≤ 18446744073709551615) (hq : a / 4294967296 - 1 = q) (hp : a % 4294967296 = p) (q0 : q ≠ 0) (q1 : q ≠ 1) (w : World) :
    Calls Try.prog 64 #[.int .u64 a] w fun e w' => e = .returned (.tuple #[.int .i64 0, .int .i64 0, .bool false]) ∧ Up w w' := by
  have ha := Lib.hid (apart_any a h0 h1)
  rw [hq, hp] at ha
  clear hq hp h0 h1
  have he0 : ∀ w, (binOp .eql 120 (.agg #[.int .i64 q, .int .i64 p]) (.agg #[.int .i64 0, .int .i64 p])).run Try.prog w = .ok (.bool false) w := fun w => by rw [eq_place]; simp [q0]
  have he : ∀ w, (binOp .eql 120 (.agg #[.int .i64 q, .int .i64 p]) (.agg #[.int .i64 1, .int .i64 p])).run Try.prog w = .ok (.bool false) w := fun w => by rw [eq_place]; simp [q1]
  clear q0 q1
  go_enter Try.func64, Try.ntmps64
  go_wp2_with (fail)
  refine (ha.out _).mono ?_
  rintro e w' ⟨rfl, hg⟩
  go_wp2
  refine wp_loop_rounds 3 ?_
  rw [rounds_succ]
  go_wp2
  rw [rounds_succ]
  go_wp2
  rw [rounds_succ]
  go_wp2
  go_ret3
  exact ⟨rfl, hg.alloc _⟩

/-! ### The same, told by functions -/
def addv (a b : Int) : Int := if sumok a b then a + b else 0
def addb (a b : Int) : Bool := decide (sumok a b)
theorem add_any (a b : Int) (ha : I64 a) (hb : I64 b) (w : World) :
    Calls Try.prog 100 #[.int .i64 a, .int .i64 b] w fun e w' => e = .returned (.tuple #[.int .i64 (addv a b), .bool (addb a b)]) ∧ Up w w' := by
  by_cases h : sumok a b
  · rw [show addv a b = a + b from if_pos h, show addb a b = true from decide_eq_true h]; exact add_ok a b h w
  · rw [show addv a b = 0 from if_neg h, show addb a b = false from decide_eq_false h]; exact add_no a b ha hb h w

def fitb (a n m : Int) : Bool := decide (fit a n m)
theorem fits_any (a n m : Int) (ha : I64 a) (hn : I64 n) (hm : I64 m) (w : World) :
    Calls Try.prog 97 #[.int .i64 a, .int .i64 n, .int .i64 m] w fun e w' => e = .returned (.bool (fitb a n m)) ∧ Up w w' := by
  by_cases h : fit a n m
  · rw [show fitb a n m = true from decide_eq_true h]; exact fits_yes a n m hm h w
  · rw [show fitb a n m = false from decide_eq_false h]; exact fits_no a n m ha hn h w

/-- Which space, which place, and whether. -/
def whs (a : Int) : Int := if a / 4294967296 - 1 = 1 then 1 else 0
def whp (a : Int) : Int := if a / 4294967296 - 1 = 0 ∨ a / 4294967296 - 1 = 1 then a % 4294967296 else 0
def whb (a : Int) : Bool := decide (a / 4294967296 - 1 = 0 ∨ a / 4294967296 - 1 = 1)
theorem where_any (a : Int) (h0 : 0 ≤ a) (h1 : a ≤ 18446744073709551615) (w : World) :
    Calls Try.prog 64 #[.int .u64 a] w fun e w' => e = .returned (.tuple #[.int .i64 (whs a), .int .i64 (whp a), .bool (whb a)]) ∧ Up w w' := by
  by_cases h : a / 4294967296 - 1 = 0
  · rw [show whs a = 0 from if_neg (by omega), show whp a = a % 4294967296 from if_pos (.inl h), show whb a = true from decide_eq_true (.inl h)]
    exact where_0 a _ h0 h1 h rfl w
  by_cases k : a / 4294967296 - 1 = 1
  · rw [show whs a = 1 from if_pos k, show whp a = a % 4294967296 from if_pos (.inr k), show whb a = true from decide_eq_true (.inr k)]
    exact where_1 a _ h0 h1 k rfl w
  · rw [show whs a = 0 from if_neg k, show whp a = 0 from if_neg (by omega), show whb a = false from decide_eq_false (by omega)]
    exact where_no a _ _ h0 h1 rfl rfl h k w

set_option maxHeartbeats 400000 in
theorem rwhere (a : Int) (h0 : 0 ≤ a) (h1 : a ≤ 18446744073709551615) (w : World) :
    Calls Try.prog 30 #[.int .u64 a] w fun e w' => e = .returned (.tuple #[.int .i64 (whs a), .int .i64 (whp a), .bool (whb a)]) ∧ w = w' := by
  by_cases h : a / 4294967296 - 1 = 0
  · rw [show whs a = 0 from if_neg (by omega), show whp a = a % 4294967296 from if_pos (.inl h), show whb a = true from decide_eq_true (.inl h)]
    have h : a / 4294967296 = 1 := by omega
    go_enter Try.func30, Try.ntmps30
    go_wp2
    go_ret3
    exact ⟨rfl, rfl⟩
  by_cases k : a / 4294967296 - 1 = 1
  · rw [show whs a = 1 from if_pos k, show whp a = a % 4294967296 from if_pos (.inr k), show whb a = true from decide_eq_true (.inr k)]
    have k : a / 4294967296 = 2 := by omega
    go_enter Try.func30, Try.ntmps30
    go_wp2
    go_ret3
    exact ⟨rfl, rfl⟩
  · rw [show whs a = 0 from if_neg k, show whp a = 0 from if_neg (by omega), show whb a = false from decide_eq_false (by omega)]
    have h : (a / 4294967296 != 1) = true := bne_iff_ne.mpr (by omega)
    have k : (a / 4294967296 != 2) = true := bne_iff_ne.mpr (by omega)
    go_enter Try.func30, Try.ntmps30
    go_wp2
    go_ret3
    exact ⟨rfl, rfl⟩

theorem nn_of_wf {a : Int} (h : (Lit.int .u64 a).wf = true) : 0 ≤ a := by
  have e : IntKind.u64.min = 0 := by decide
  simp [Lit.wf, e] at h
  omega
theorem hi_of_wf {a : Int} (h : (Lit.int .u64 a).wf = true) : a ≤ 18446744073709551615 := by
  have e : IntKind.u64.max = 18446744073709551615 := by decide
  simp [Lit.wf, e] at h
  omega
theorem i64_of_wf {a : Int} (h : (Lit.int .i64 a).wf = true) : I64 a := by
  have e : IntKind.i64.min = -9223372036854775808 := by decide
  have e2 : IntKind.i64.max = 9223372036854775807 := by decide
  simp [Lit.wf, e, e2] at h
  unfold I64
  omega
end Go.Proofs.Ytgcpkgogjcgfbaa
