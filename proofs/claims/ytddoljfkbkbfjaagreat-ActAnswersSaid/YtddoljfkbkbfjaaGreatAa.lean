/- Sizes, memory as plain lists, arena's calls: contracts. -/
import Derived.Test.YtddoljfkbkbfjaaGreatRows
import Derived.WalkKit
import Derived.ProofKit
import Derived.OpenShut
import Derived.WalkLawsBesides
import Derived.Lib.Hide
import Derived.Laws.StructEq
import Derived.Laws.MathBits
import Derived.Laws.Rows
import Derived.LoopN
import Derived.Below
import Derived.Deep.Draws
import Derived.Laws.CopyOwn
import Derived.Laws.OwnMore
import Derived.Deep.AppendLies
import Derived.RegionTactic
import Derived.Deep.QuietTactic
import Derived.BigQuiet
import Derived.Outline
import Derived.Deep.OwnRows
import Derived.Deep.RegionLaw
import Derived.StillTailTactics
/-! Of stage 5 -/
namespace Go.Proofs.YtddoljfkbkbfjaaGreat
open Go.ChangeShapes Go.WideShapes Go.ChangeAt Go.RowKit
set_option linter.unusedVariables false

/-- The world has grown; what was there is as it was. -/
def Up (w w' : World) : Prop := Below w.heap.size w w'
theorem Up.refl (w : World) : Up w w := Below.refl _ _
theorem Up.trans {a b c : World} (h : Up a b) (k : Up b c) : Up a c := Below.trans (B := a.heap.size) h (Below.mono k h.size)
theorem Up.alloc {a b : World} (h : Up a b) (o : Obj) : Up a (b.alloc o) := Below.alloc h h.size o
theorem Up.setCell {a b : World} (h : Up a b) {p : Addr} (hp : a.heap.size ≤ p.block) (u : Value) : Up a (b.setCell p u) := Below.setCell h hp u
theorem Up.drew {a b : World} (h : Up a b) : Up a b.drew := Below.drew h
theorem Up.drewN {a b : World} (h : Up a b) (n : Nat) : Up a (b.drewN n) := ⟨h.os, h.tape, h.output, h.size, h.block⟩

theorem ret_int {k : IntKind} {a b : Int} (h : a = b) : Ending.returned (.int k a) = .returned (.int k b) := by rw [h]

/-- A whole number of the machine. -/
def I64 (a : Int) : Prop := -9223372036854775808 ≤ a ∧ a ≤ 9223372036854775807

/-- May the two be summed? -/
def sumok (a b : Int) : Prop := 0 ≤ a ∧ 0 ≤ b ∧ a + b ≤ 9223372036854775807
instance decSum (a b : Int) : Decidable (sumok a b) := by unfold sumok; infer_instance

set_option maxHeartbeats 400000 in
theorem add_ok (a b : Int) (h : sumok a b) (w : World) :
    Calls Tryz.prog 147 #[.int .i64 a, .int .i64 b] w fun e w' => e = .returned (.tuple #[.int .i64 (a + b), .bool true]) ∧ Up w w' := by
  obtain ⟨h0, h1, h2⟩ := h
  have n0 : ¬ a < 0 := by omega
  have n1 : ¬ b < 0 := by omega
  have n2 : ¬ (9223372036854775807 - b < a) := by omega
  have u0 : a ≤ 9223372036854775807 := by omega
  have u1 : b ≤ 9223372036854775807 := by omega
  go_enter Tryz.func147, Tryz.ntmps147
  go_wp2
  go_ret2
  exact ⟨rfl, ((Up.refl _).alloc _).alloc _⟩

set_option maxHeartbeats 400000 in
theorem add_no (a b : Int) (ha : I64 a) (hb : I64 b) (h : ¬ sumok a b) (w : World) :
    Calls Tryz.prog 147 #[.int .i64 a, .int .i64 b] w fun e w' => e = .returned (.tuple #[.int .i64 0, .bool false]) ∧ Up w w' := by
  obtain ⟨a0, a1⟩ := ha
  obtain ⟨b0, b1⟩ := hb
  unfold sumok at h
  by_cases n0 : a < 0
  · go_enter Tryz.func147, Tryz.ntmps147
    go_wp2
    go_ret2
    exact ⟨rfl, ((Up.refl _).alloc _).alloc _⟩
  by_cases n1 : b < 0
  · go_enter Tryz.func147, Tryz.ntmps147
    go_wp2
    go_ret2
    exact ⟨rfl, ((Up.refl _).alloc _).alloc _⟩
  have n2 : 9223372036854775807 - b < a := by omega
  have m1 : 0 ≤ b := by omega
  clear h
  go_enter Tryz.func147, Tryz.ntmps147
  go_wp2
  go_ret2
  exact ⟨rfl, ((Up.refl _).alloc _).alloc _⟩

/-- Does it fit? -/
def fit (a n words : Int) : Prop := 0 ≤ a ∧ 0 ≤ n ∧ a + n ≤ words
instance decFit (a n words : Int) : Decidable (fit a n words) := by unfold fit; infer_instance

set_option maxHeartbeats 400000 in
theorem fits_yes (a n m : Int) (hm : I64 m) (h : fit a n m) (w : World) :
    Calls Tryz.prog 139 #[.int .i64 a, .int .i64 n, .int .i64 m] w fun e w' => e = .returned (.bool true) ∧ Up w w' := by
  obtain ⟨h0, h1, h2⟩ := h
  have hs := Lib.hid (show sumok a n from ⟨h0, h1, Int.le_trans h2 hm.2⟩)
  clear hm
  go_enter Tryz.func139, Tryz.ntmps139
  go_wp2_with (fail)
  refine (add_ok a n hs.out _).mono ?_
  rintro e w' ⟨rfl, hg⟩
  go_wp2
  go_ret
  exact ⟨rfl, hg⟩

set_option maxHeartbeats 400000 in
theorem fits_no (a n m : Int) (ha : I64 a) (hn : I64 n) (h : ¬ fit a n m) (w : World) :
    Calls Tryz.prog 139 #[.int .i64 a, .int .i64 n, .int .i64 m] w fun e w' => e = .returned (.bool false) ∧ Up w w' := by
  by_cases hs : sumok a n
  · have k : m < a + n := by unfold fit at h; unfold sumok at hs; omega
    have hd : decide (a + n ≤ m) = false := decide_eq_false (by omega)
    have hs := Lib.hid hs
    clear h ha hn
    go_enter Tryz.func139, Tryz.ntmps139
    go_wp2_with (fail)
    refine (add_ok a n hs.out _).mono ?_
    rintro e w' ⟨rfl, hg⟩
    go_wp2
    go_ret
    exact ⟨rfl, hg⟩
  · have hs := Lib.hid hs
    have ha := Lib.hid ha
    have hn := Lib.hid hn
    clear h
    go_enter Tryz.func139, Tryz.ntmps139
    go_wp2_with (fail)
    refine (add_no a n ha.out hn.out hs.out _).mono ?_
    rintro e w' ⟨rfl, hg⟩
    go_wp2
    go_ret
    exact ⟨rfl, hg⟩
theorem w64_low (a : Int) (h0 : 0 ≤ a) (h1 : a ≤ 18446744073709551615) : wrap64 (bits BinOp.and IntKind.u64 a 4294967295) = a % 4294967296 := by
  rw [and_low32 a h0 (by omega)]; unfold wrap64; omega

set_option maxHeartbeats 400000 in
theorem apart_any (a : Int) (h0 : 0 ≤ a) (h1 : a ≤ 18446744073709551615) (w : World) :
    Calls Tryz.prog 156 #[.int .u64 a] w fun e w' => e = .returned (.agg #[.int .i64 (a / 4294967296 - 1), .int .i64 (a % 4294967296)]) ∧ Up w w' := by
  have hm := Lib.hid (w64_low a h0 h1)
  go_enter Tryz.func156, Tryz.ntmps156
  go_wp2
  rw [hm.out]
  refine bodyPost_ret (results_cell_row rfl _ _ w.heap.size 199 _ _ _ rfl (heap_alloc_new _ _) Tryz.underlying199 rfl (by kernel_rfl)) rfl ?_
  exact ⟨rfl, (Up.refl _).alloc _⟩

theorem fieldsOf_of {P : Program} {t : TypeId} {fs : Array Field} (h : P.underlying t = some (.struct fs)) : P.fieldsOf t = fs := by unfold Program.fieldsOf; rw [h]

theorem eq_place (s p t q : Int) (w : World) : (binOp .eql 199 (.agg #[.int .i64 s, .int .i64 p]) (.agg #[.int .i64 t, .int .i64 q])).run Tryz.prog w = .ok (.bool (s == t && p == q)) w := by
  rw [run_eql_struct, run_equalIn_agg _ _ _ _ _ (by rw [fieldsOf_of Tryz.underlying199]; exact Tryz.underlying199) (by kernel_rfl), fieldsOf_of Tryz.underlying199]
  simp [Op.eqFields, go_sem]
  by_cases h : s = t <;> by_cases k : p = q <;> simp [h, k]

set_option maxHeartbeats 400000 in
theorem where_0 (a p : Int) (h0 : 0 ≤ a) (h1 : a ≤ 18446744073709551615) (hq : a / 4294967296 - 1 = 0) (hp : a % 4294967296 = p) (w : World) :
    Calls Tryz.prog 137 #[.int .u64 a] w fun e w' => e = .returned (.tuple #[.int .i64 0, .int .i64 p, .bool true]) ∧ Up w w' := by
  have ha := Lib.hid (apart_any a h0 h1)
  rw [hq, hp] at ha
  clear hq hp h0 h1
  have he : ∀ w, (binOp .eql 199 (.agg #[.int .i64 0, .int .i64 p]) (.agg #[.int .i64 0, .int .i64 p])).run Tryz.prog w = .ok (.bool true) w := fun w => by rw [eq_place]; simp
  go_enter Tryz.func137, Tryz.ntmps137
  go_wp2_with (fail)
  refine (ha.out _).mono ?_
  rintro e w' ⟨rfl, hg⟩
  go_wp2
  refine wp_loop_rounds 1 ?_
  rw [rounds_succ]
  go_wp2
  go_region
  go_wp2
  go_ret3
  exact ⟨rfl, (hg.alloc _).drew⟩

set_option maxHeartbeats 800000 in
theorem where_1 (a p : Int) (h0 : 0 ≤ a) (h1 : a ≤ 18446744073709551615) (hq : a / 4294967296 - 1 = 1) (hp : a % 4294967296 = p) (w : World) :
    Calls Tryz.prog 137 #[.int .u64 a] w fun e w' => e = .returned (.tuple #[.int .i64 1, .int .i64 p, .bool true]) ∧ Up w w' := by
  have ha := Lib.hid (apart_any a h0 h1)
  rw [hq, hp] at ha
  clear hq hp h0 h1
  have he0 : ∀ w, (binOp .eql 199 (.agg #[.int .i64 1, .int .i64 p]) (.agg #[.int .i64 0, .int .i64 p])).run Tryz.prog w = .ok (.bool false) w := fun w => by rw [eq_place]; simp
  have he : ∀ w, (binOp .eql 199 (.agg #[.int .i64 1, .int .i64 p]) (.agg #[.int .i64 1, .int .i64 p])).run Tryz.prog w = .ok (.bool true) w := fun w => by rw [eq_place]; simp
  go_enter Tryz.func137, Tryz.ntmps137
  go_wp2_with (fail)
  refine (ha.out _).mono ?_
  rintro e w' ⟨rfl, hg⟩
  go_wp2
  refine wp_loop_rounds 2 ?_
  rw [rounds_succ]
  go_wp2
  rw [rounds_succ]
  go_wp2
  go_region
  go_wp2
  go_ret3
  exact ⟨rfl, (hg.alloc _).drew⟩

set_option maxHeartbeats 800000 in
theorem where_no (a q p : Int) (h0 : 0 ≤ a) (h1 : a ≤ 18446744073709551615) (hq : a / 4294967296 - 1 = q) (hp : a % 4294967296 = p) (q0 : q ≠ 0) (q1 : q ≠ 1) (w : World) :
    Calls Tryz.prog 137 #[.int .u64 a] w fun e w' => e = .returned (.tuple #[.int .i64 0, .int .i64 0, .bool false]) ∧ Up w w' := by
  have ha := Lib.hid (apart_any a h0 h1)
  rw [hq, hp] at ha
  clear hq hp h0 h1
  have he0 : ∀ w, (binOp .eql 199 (.agg #[.int .i64 q, .int .i64 p]) (.agg #[.int .i64 0, .int .i64 p])).run Tryz.prog w = .ok (.bool false) w := fun w => by rw [eq_place]; simp [q0]
  have he : ∀ w, (binOp .eql 199 (.agg #[.int .i64 q, .int .i64 p]) (.agg #[.int .i64 1, .int .i64 p])).run Tryz.prog w = .ok (.bool false) w := fun w => by rw [eq_place]; simp [q1]
  clear q0 q1
  go_enter Tryz.func137, Tryz.ntmps137
  go_wp2_with (fail)
  refine (ha.out _).mono ?_
  rintro e w' ⟨rfl, hg⟩
  go_wp2
  refine wp_loop_rounds 3 ?_
  rw [rounds_succ]
  go_wp2
  rw [rounds_succ]
  go_wp2
  rw [rounds_succ]
  go_wp2
  go_ret3
  exact ⟨rfl, hg.alloc _⟩

/-! ### The same, told by functions -/
def addv (a b : Int) : Int := if sumok a b then a + b else 0
def addb (a b : Int) : Bool := decide (sumok a b)
theorem add_any (a b : Int) (ha : I64 a) (hb : I64 b) (w : World) :
    Calls Tryz.prog 147 #[.int .i64 a, .int .i64 b] w fun e w' => e = .returned (.tuple #[.int .i64 (addv a b), .bool (addb a b)]) ∧ Up w w' := by
  by_cases h : sumok a b
  · rw [show addv a b = a + b from if_pos h, show addb a b = true from decide_eq_true h]; exact add_ok a b h w
  · rw [show addv a b = 0 from if_neg h, show addb a b = false from decide_eq_false h]; exact add_no a b ha hb h w

def fitb (a n m : Int) : Bool := decide (fit a n m)
theorem fits_any (a n m : Int) (ha : I64 a) (hn : I64 n) (hm : I64 m) (w : World) :
    Calls Tryz.prog 139 #[.int .i64 a, .int .i64 n, .int .i64 m] w fun e w' => e = .returned (.bool (fitb a n m)) ∧ Up w w' := by
  by_cases h : fit a n m
  · rw [show fitb a n m = true from decide_eq_true h]; exact fits_yes a n m hm h w
  · rw [show fitb a n m = false from decide_eq_false h]; exact fits_no a n m ha hn h w

/-- Which space, which place, and whether. -/
def whs (a : Int) : Int := if a / 4294967296 - 1 = 1 then 1 else 0
def whp (a : Int) : Int := if a / 4294967296 - 1 = 0 ∨ a / 4294967296 - 1 = 1 then a % 4294967296 else 0
def whb (a : Int) : Bool := decide (a / 4294967296 - 1 = 0 ∨ a / 4294967296 - 1 = 1)
theorem where_any (a : Int) (h0 : 0 ≤ a) (h1 : a ≤ 18446744073709551615) (w : World) :
    Calls Tryz.prog 137 #[.int .u64 a] w fun e w' => e = .returned (.tuple #[.int .i64 (whs a), .int .i64 (whp a), .bool (whb a)]) ∧ Up w w' := by
  by_cases h : a / 4294967296 - 1 = 0
  · rw [show whs a = 0 from if_neg (by omega), show whp a = a % 4294967296 from if_pos (.inl h), show whb a = true from decide_eq_true (.inl h)]
    exact where_0 a _ h0 h1 h rfl w
  by_cases k : a / 4294967296 - 1 = 1
  · rw [show whs a = 1 from if_pos k, show whp a = a % 4294967296 from if_pos (.inr k), show whb a = true from decide_eq_true (.inr k)]
    exact where_1 a _ h0 h1 k rfl w
  · rw [show whs a = 0 from if_neg k, show whp a = 0 from if_neg (by omega), show whb a = false from decide_eq_false (by omega)]
    exact where_no a _ _ h0 h1 rfl rfl h k w

set_option maxHeartbeats 400000 in
theorem rwhere (a : Int) (h0 : 0 ≤ a) (h1 : a ≤ 18446744073709551615) (w : World) :
    Calls Tryz.prog 38 #[.int .u64 a] w fun e w' => e = .returned (.tuple #[.int .i64 (whs a), .int .i64 (whp a), .bool (whb a)]) ∧ w = w' := by
  by_cases h : a / 4294967296 - 1 = 0
  · rw [show whs a = 0 from if_neg (by omega), show whp a = a % 4294967296 from if_pos (.inl h), show whb a = true from decide_eq_true (.inl h)]
    have h : a / 4294967296 = 1 := by omega
    go_enter Tryz.func38, Tryz.ntmps38
    go_wp2
    go_ret3
    exact ⟨rfl, rfl⟩
  by_cases k : a / 4294967296 - 1 = 1
  · rw [show whs a = 1 from if_pos k, show whp a = a % 4294967296 from if_pos (.inr k), show whb a = true from decide_eq_true (.inr k)]
    have k : a / 4294967296 = 2 := by omega
    go_enter Tryz.func38, Tryz.ntmps38
    go_wp2
    go_ret3
    exact ⟨rfl, rfl⟩
  · rw [show whs a = 0 from if_neg k, show whp a = 0 from if_neg (by omega), show whb a = false from decide_eq_false (by omega)]
    have h : (a / 4294967296 != 1) = true := bne_iff_ne.mpr (by omega)
    have k : (a / 4294967296 != 2) = true := bne_iff_ne.mpr (by omega)
    go_enter Tryz.func38, Tryz.ntmps38
    go_wp2
    go_ret3
    exact ⟨rfl, rfl⟩

theorem nn_of_wf {a : Int} (h : (Lit.int .u64 a).wf = true) : 0 ≤ a := by
  have e : IntKind.u64.min = 0 := by decide
  simp [Lit.wf, e] at h
  omega
theorem hi_of_wf {a : Int} (h : (Lit.int .u64 a).wf = true) : a ≤ 18446744073709551615 := by
  have e : IntKind.u64.max = 18446744073709551615 := by decide
  simp [Lit.wf, e] at h
  omega
theorem i64_of_wf {a : Int} (h : (Lit.int .i64 a).wf = true) : I64 a := by
  have e : IntKind.i64.min = -9223372036854775808 := by decide
  have e2 : IntKind.i64.max = 9223372036854775807 := by decide
  simp [Lit.wf, e, e2] at h
  unfold I64
  omega

end Go.Proofs.YtddoljfkbkbfjaaGreat
/-! Of stage 5 -/
namespace Go.Proofs.YtddoljfkbkbfjaaGreat
open Go.ChangeShapes Go.WideShapes Go.ChangeAt Go.RowKit
set_option linter.unusedVariables false

/-- An address, as whole numbers of the machine. -/
def U64 (a : Int) : Prop := 0 ≤ a ∧ a ≤ 18446744073709551615
/-- The address leads to place p of space s. -/
def Leads (a s p : Int) : Prop := (s = 0 ∨ s = 1) ∧ 0 ≤ p ∧ p < 4294967296 ∧ a = (s + 1) * 4294967296 + p
theorem leads_or (a : Int) (h : U64 a) : (∃ s p, Leads a s p) ∨ whb a = false := by
  by_cases k : a / 4294967296 - 1 = 0 ∨ a / 4294967296 - 1 = 1
  · left
    refine ⟨a / 4294967296 - 1, a % 4294967296, k, by omega, by omega, by omega⟩
  · exact .inr (decide_eq_false k)
theorem Leads.is {a s p : Int} (h : Leads a s p) : whs a = s ∧ whp a = p ∧ whb a = true := by
  obtain ⟨h0, h1, h2, h3⟩ := h
  have e : a / 4294967296 - 1 = s := by omega
  refine ⟨?_, ?_, ?_⟩
  · unfold whs; rw [e]; rcases h0 with rfl | rfl <;> simp
  · unfold whp; rw [e, if_pos h0]; omega
  · unfold whb; rw [e]; exact decide_eq_true h0

theorem where_yes (a s p : Int) (ha : U64 a) (h : Leads a s p) (w : World) :
    Calls Tryz.prog 137 #[.int .u64 a] w fun e w' => e = .returned (.tuple #[.int .i64 s, .int .i64 p, .bool true]) ∧ Up w w' := by
  obtain ⟨e1, e2, e3⟩ := h.is
  have := where_any a ha.1 ha.2 w
  rw [e1, e2, e3] at this
  exact this
theorem not_where {a : Int} (h : whb a = false) : whs a = 0 ∧ whp a = 0 := by
  have h := of_decide_eq_false h
  exact ⟨if_neg (fun k => h (.inr k)), if_neg h⟩
theorem where_not (a : Int) (ha : U64 a) (h : whb a = false) (w : World) :
    Calls Tryz.prog 137 #[.int .u64 a] w fun e w' => e = .returned (.tuple #[.int .i64 0, .int .i64 0, .bool false]) ∧ Up w w' := by
  obtain ⟨e1, e2⟩ := not_where h
  have := where_any a ha.1 ha.2 w
  rw [e1, e2, h] at this
  exact this
theorem rwhere_yes (a s p : Int) (ha : U64 a) (h : Leads a s p) (w : World) :
    Calls Tryz.prog 38 #[.int .u64 a] w fun e w' => e = .returned (.tuple #[.int .i64 s, .int .i64 p, .bool true]) ∧ w = w' := by
  obtain ⟨e1, e2, e3⟩ := h.is
  have := rwhere a ha.1 ha.2 w
  rw [e1, e2, e3] at this
  exact this
theorem rwhere_not (a : Int) (ha : U64 a) (h : whb a = false) (w : World) :
    Calls Tryz.prog 38 #[.int .u64 a] w fun e w' => e = .returned (.tuple #[.int .i64 0, .int .i64 0, .bool false]) ∧ w = w' := by
  obtain ⟨e1, e2⟩ := not_where h
  have := rwhere a ha.1 ha.2 w
  rw [e1, e2, h] at this
  exact this

/-- Memory: how many words, and those of both spaces. -/
structure Me where
  n : Nat
  xs : List Int
  ys : List Int
/-- Memory is right. -/
def Me.ok (m : Me) : Prop := 16 ≤ m.n ∧ m.n ≤ 4096 ∧ m.xs.length = m.n ∧ m.ys.length = m.n
def Me.sp (m : Me) (s : Int) : List Int := if s = 1 then m.ys else m.xs
def Me.put (m : Me) (s : Int) (l : List Int) : Me := if s = 1 then { m with ys := l } else { m with xs := l }
/-- The address is there. -/
def Me.there (m : Me) (a : Int) : Prop := whb a = true ∧ whp a < m.n
instance decThere (m : Me) (a : Int) : Decidable (m.there a) := by unfold Me.there; infer_instance
def Me.ld (m : Me) (a : Int) : Int := if m.there a then (m.sp (whs a)).getD (whp a).toNat 0 else 0
def Me.lde (m : Me) (a : Int) : Int := if m.there a then 0 else 2
def Me.st (m : Me) (a v : Int) : Me := if m.there a then m.put (whs a) ((m.sp (whs a)).set (whp a).toNat v) else m

/-- A row of words lies at an address. -/
def Row (w : World) (p : Addr) (xs : List Int) : Prop := p.block < w.heap.size ∧ ∀ j x, xs[j]? = some x → w.cell? (p.add j) = some (.int .u64 x)
theorem block_of_add (a : Addr) (n : Nat) : (a.add n).block = a.block := by unfold Addr.add; split <;> rfl
theorem Row.up {w w' : World} {p : Addr} {xs : List Int} (h : Row w p xs) (k : Up w w') : Row w' p xs :=
  ⟨Nat.lt_of_lt_of_le h.1 k.size, fun j x hx => (Below.cell k (by rw [block_of_add]; exact h.1)).trans (h.2 j x hx)⟩
theorem Row.at_ {w : World} {p : Addr} {xs : List Int} (h : Row w p xs) (j : Nat) (hj : j < xs.length) : w.cell? (p.add j) = some (.int .u64 (xs.getD j 0)) := by
  rw [h.2 j xs[j] (List.getElem?_eq_getElem hj)]
  simp [List.getD, List.getElem?_eq_getElem hj]

/-- Memory lies at two addresses. -/
def Sits (w : World) (m : Me) (p q : Addr) (c d : Nat) : Prop := m.ok ∧ m.n ≤ c ∧ c ≤ maxLen ∧ m.n ≤ d ∧ d ≤ maxLen ∧ Row w p m.xs ∧ Row w q m.ys
theorem Sits.up {w w' : World} {m : Me} {p q : Addr} {c d : Nat} (h : Sits w m p q c d) (k : Up w w') : Sits w' m p q c d :=
  ⟨h.1, h.2.1, h.2.2.1, h.2.2.2.1, h.2.2.2.2.1, h.2.2.2.2.2.1.up k, h.2.2.2.2.2.2.up k⟩
/-- All old cells and marks read as before. -/
theorem bcell {W w1 : World} (hb : Up W w1) : (∀ b o, b < W.heap.size → w1.cell? ⟨b, o, none⟩ = W.cell? ⟨b, o, none⟩) ∧ (∀ b o, b < W.heap.size → w1.frozen? ⟨b, o, none⟩ = W.frozen? ⟨b, o, none⟩) :=
  ⟨fun b o h => Below.cell hb (p := ⟨b, o, none⟩) h, fun b o h => Below.frozen hb (p := ⟨b, o, none⟩) h⟩
theorem Up.lt {a b : World} (h : Up a b) {k : Nat} (hk : k < a.heap.size) : k < b.heap.size := Nat.lt_of_lt_of_le hk h.size

end Go.Proofs.YtddoljfkbkbfjaaGreat
/-! Of stage 5 -/
namespace Go.Proofs.YtddoljfkbkbfjaaGreat
open Go.ChangeShapes Go.WideShapes Go.ChangeAt Go.RowKit
set_option linter.unusedVariables false
set_option linter.unusedSimpArgs false

set_option maxHeartbeats 400000 in
theorem places_any (n k : Int) (s0 s1 : Value) (w : World) :
    Calls Tryz.prog 136 #[.agg #[.int .i64 n, s0, s1], .int .i64 k] w fun e w' => e = .returned (.func (.func 155) #[.agg #[.int .i64 n, s0, s1, .int .i64 k]] #[]) ∧ Up w w' := by
  have hmf : ∀ (fn : Fn) (first cap : Array Value) (w : World), (Instr.makeFunc fn first cap).run Tryz.prog w = .ok (.func fn first cap) w := fun _ _ _ _ => rfl
  go_enter Tryz.func136, Tryz.ntmps136
  go_wp2
  go_ret
  exact ⟨rfl, (Up.refl _).alloc _⟩

/-- From there on so many words are there (one at least). -/
def Runs (n : Nat) (k p : Int) : Prop := p + k ≤ n ∧ p + 1 ≤ n
instance decRuns (n : Nat) (k p : Int) : Decidable (Runs n k p) := by unfold Runs; infer_instance

theorem max_is (k : Int) (w : World) : (Builtin.max_ #[3, 3] 3 #[.int .i64 k, .int .i64 1]).run Tryz.prog w = .ok (.int .i64 (max k 1)) w := by
  rw [run_max_int2]
  have e : (if (1 : Int) > k then (1 : Int) else k) = max k 1 := by split <;> omega
  rw [e]

set_option maxHeartbeats 1000000 in
theorem place_yes (n : Nat) (k a s p : Int) (A B : Option Addr) (c d : Nat) (hn : n ≤ 4096) (k0 : 0 ≤ k) (ha : U64 a) (hl : Leads a s p) (hr : Runs n k p) (w : World) :
    Calls Tryz.prog 155 #[.agg #[.int .i64 n, .slice A n c, .slice B n d, .int .i64 k], .int .u64 a] w fun e w' => e = .returned (.tuple #[.agg #[.int .i64 s, .int .i64 p], .bool true]) ∧ Up w w' := by
  have hw := Lib.hid (fun w => where_yes a s p ha hl w)
  obtain ⟨hs, p0, p1, hE⟩ := hl
  obtain ⟨r0, r1⟩ := hr
  have hf := Lib.hid (fun w => fits_yes p (max k 1) n ⟨by omega, by omega⟩ ⟨p0, by omega, by omega⟩ w)
  have hmx := max_is k
  clear ha hE
  rcases hs with rfl | rfl

  · go_enter Tryz.func155, Tryz.ntmps155
    go_wp2_with (fail)
    refine (hw.out _).mono ?_
    rintro e w1 ⟨rfl, h1⟩
    obtain ⟨c1, f1⟩ := bcell h1
    have z1 : w.heap.size + 1 < w1.heap.size := by have := h1.size; simp at this; omega
    have y1 : w.heap.size < w1.heap.size := by omega
    go_wp2_with (fail)
    refine (hf.out _).mono ?_
    rintro e w2 ⟨rfl, h2⟩
    obtain ⟨c2, f2⟩ := bcell h2
    have z2 := h2.lt z1
    have y2 := h2.lt y1
    go_wp2_with (fail)
    refine (hf.out _).mono ?_
    rintro e w3 ⟨rfl, h3⟩
    obtain ⟨c3, f3⟩ := bcell h3
    have z3 := h3.lt z2
    have y3 := h3.lt y2
    go_wp2
    refine bodyPost_ret (v := .tuple #[.agg #[.int .i64 0, .int .i64 p], .bool true]) (by simp [results, Tryz.results155, go_sem, c1, z1, c2, z2, c3, z3]) rfl ⟨rfl, ?_⟩
    exact (((((((Up.refl _).alloc _).alloc _).trans h1).trans h2).trans h3).setCell (by simp) _).setCell (by simp) _

  · go_enter Tryz.func155, Tryz.ntmps155
    go_wp2_with (fail)
    refine (hw.out _).mono ?_
    rintro e w1 ⟨rfl, h1⟩
    obtain ⟨c1, f1⟩ := bcell h1
    have z1 : w.heap.size + 1 < w1.heap.size := by have := h1.size; simp at this; omega
    have y1 : w.heap.size < w1.heap.size := by omega
    go_wp2_with (fail)
    refine (hf.out _).mono ?_
    rintro e w2 ⟨rfl, h2⟩
    obtain ⟨c2, f2⟩ := bcell h2
    have z2 := h2.lt z1
    have y2 := h2.lt y1
    go_wp2_with (fail)
    refine (hf.out _).mono ?_
    rintro e w3 ⟨rfl, h3⟩
    obtain ⟨c3, f3⟩ := bcell h3
    have z3 := h3.lt z2
    have y3 := h3.lt y2
    go_wp2
    refine bodyPost_ret (v := .tuple #[.agg #[.int .i64 1, .int .i64 p], .bool true]) (by simp [results, Tryz.results155, go_sem, c1, z1, c2, z2, c3, z3]) rfl ⟨rfl, ?_⟩
    exact (((((((Up.refl _).alloc _).alloc _).trans h1).trans h2).trans h3).setCell (by simp) _).setCell (by simp) _

set_option maxHeartbeats 1000000 in
theorem place_far (n : Nat) (k a s p : Int) (A B : Option Addr) (c d : Nat) (hn : n ≤ 4096) (hk : I64 k) (k0 : 0 ≤ k) (ha : U64 a) (hl : Leads a s p) (hr : ¬ Runs n k p) (w : World) :
    Calls Tryz.prog 155 #[.agg #[.int .i64 n, .slice A n c, .slice B n d, .int .i64 k], .int .u64 a] w fun e w' => e = .returned (.tuple #[.agg #[.int .i64 0, .int .i64 0], .bool false]) ∧ Up w w' := by
  have hw := Lib.hid (fun w => where_yes a s p ha hl w)
  obtain ⟨hs, p0, p1, hE⟩ := hl
  unfold Runs at hr
  obtain ⟨hk0, hk1⟩ := hk
  have hf := Lib.hid (fun w => fits_no p (max k 1) n ⟨by omega, by omega⟩ ⟨by omega, by omega⟩ (by unfold fit; omega) w)
  have hmx := max_is k
  clear ha hE hr hk0 hk1
  go_enter Tryz.func155, Tryz.ntmps155
  go_wp2_with (fail)
  refine (hw.out _).mono ?_
  rintro e w1 ⟨rfl, h1⟩
  obtain ⟨c1, f1⟩ := bcell h1
  have z1 : w.heap.size + 1 < w1.heap.size := by have := h1.size; simp at this; omega
  have y1 : w.heap.size < w1.heap.size := by omega
  go_wp2_with (fail)
  refine (hf.out _).mono ?_
  rintro e w2 ⟨rfl, h2⟩
  obtain ⟨c2, f2⟩ := bcell h2
  have z2 := h2.lt z1
  have y2 := h2.lt y1
  go_wp2
  refine bodyPost_ret (v := .tuple #[.agg #[.int .i64 0, .int .i64 0], .bool false]) (by simp [results, Tryz.results155, go_sem, c1, z1, c2, z2]) rfl ⟨rfl, ?_⟩
  exact ((((((Up.refl _).alloc _).alloc _).trans h1).trans h2).setCell (by simp) _).setCell (by simp) _

set_option maxHeartbeats 1000000 in
theorem place_none (n : Nat) (k a : Int) (A B : Option Addr) (c d : Nat) (ha : U64 a) (hl : whb a = false) (w : World) :
    Calls Tryz.prog 155 #[.agg #[.int .i64 n, .slice A n c, .slice B n d, .int .i64 k], .int .u64 a] w fun e w' => e = .returned (.tuple #[.agg #[.int .i64 0, .int .i64 0], .bool false]) ∧ Up w w' := by
  have hw := Lib.hid (fun w => where_not a ha hl w)
  have hmx := max_is k
  clear ha hl
  go_enter Tryz.func155, Tryz.ntmps155
  go_wp2_with (fail)
  refine (hw.out _).mono ?_
  rintro e w1 ⟨rfl, h1⟩
  obtain ⟨c1, f1⟩ := bcell h1
  have z1 : w.heap.size + 1 < w1.heap.size := by have := h1.size; simp at this; omega
  have y1 : w.heap.size < w1.heap.size := by omega
  go_wp2
  refine bodyPost_ret (v := .tuple #[.agg #[.int .i64 0, .int .i64 0], .bool false]) (by simp [results, Tryz.results155, go_sem, c1, z1]) rfl ⟨rfl, ?_⟩
  exact (((((Up.refl _).alloc _).alloc _).trans h1).setCell (by simp) _).setCell (by simp) _


end Go.Proofs.YtddoljfkbkbfjaaGreat
/-! Of stage 5 -/
namespace Go.Proofs.YtddoljfkbkbfjaaGreat
open Go.ChangeShapes Go.WideShapes Go.ChangeAt Go.RowKit
set_option linter.unusedVariables false
set_option linter.unusedSimpArgs false

set_option maxHeartbeats 1000000 in
theorem load_at0 (m : Me) (a p : Int) (P Q : Addr) (c d : Nat) (w : World) (hm : Sits w m P Q c d) (ha : U64 a) (hl : Leads a 0 p) (hp : p < m.n) :
    Calls Tryz.prog 109 #[.agg #[.int .i64 m.n, .slice (some P) m.n c, .slice (some Q) m.n d], .int .u64 a] w fun e w' => e = .returned (.tuple #[.int .u64 (m.xs.getD p.toNat 0), .int .i64 0]) ∧ Up w w' := by
  have hpl := Lib.hid (fun w => place_yes m.n 1 a 0 p (some P) (some Q) c d hm.1.2.1 (by omega) ha hl ⟨by omega, by omega⟩ w)
  obtain ⟨hs, p0, p1, hE⟩ := hl
  obtain ⟨k, rfl⟩ : ∃ k : Nat, p = k := ⟨p.toNat, by omega⟩
  have hx := Lib.hid hm.1.2.2.1
  have hR := hm.2.2.2.2.2.1
  obtain ⟨n, xs, ys⟩ := m
  clear ha hE hm hs
  simp only at hp hx hR hpl ⊢
  go_enter Tryz.func109, Tryz.ntmps109
  go_wp2_with (fail)
  refine (places_any _ _ _ _ _).mono ?_
  rintro e w1 ⟨rfl, h1⟩
  obtain ⟨c1, f1⟩ := bcell h1
  have y1 : w.heap.size < w1.heap.size := by have := h1.size; simp at this; omega
  go_wp2_with (fail)
  refine (hpl.out _).mono ?_
  rintro e w2 ⟨rfl, h2⟩
  obtain ⟨c2, f2⟩ := bcell h2
  have y2 := h2.lt y1
  have g1 := ((((hR.up ((Up.refl _).alloc _)).up h1).up h2).up ((Up.refl _).alloc (Obj.cells #[Value.int IntKind.i64 0, Value.int IntKind.i64 k] 179))).at_ k (by rw [hx.out]; omega)
  clear hR
  go_wp2
  go_region
  all_goals (try go_wp2)
  go_ret2
  refine ⟨rfl, ?_⟩
  exact (((((Up.refl _).alloc _).trans h1).trans h2).alloc _).drew

set_option maxHeartbeats 1000000 in
theorem load_at1 (m : Me) (a p : Int) (P Q : Addr) (c d : Nat) (w : World) (hm : Sits w m P Q c d) (ha : U64 a) (hl : Leads a 1 p) (hp : p < m.n) :
    Calls Tryz.prog 109 #[.agg #[.int .i64 m.n, .slice (some P) m.n c, .slice (some Q) m.n d], .int .u64 a] w fun e w' => e = .returned (.tuple #[.int .u64 (m.ys.getD p.toNat 0), .int .i64 0]) ∧ Up w w' := by
  have hpl := Lib.hid (fun w => place_yes m.n 1 a 1 p (some P) (some Q) c d hm.1.2.1 (by omega) ha hl ⟨by omega, by omega⟩ w)
  obtain ⟨hs, p0, p1, hE⟩ := hl
  obtain ⟨k, rfl⟩ : ∃ k : Nat, p = k := ⟨p.toNat, by omega⟩
  have hx := Lib.hid hm.1.2.2.2
  have hR := hm.2.2.2.2.2.2
  obtain ⟨n, xs, ys⟩ := m
  clear ha hE hm hs
  simp only at hp hx hR hpl ⊢
  go_enter Tryz.func109, Tryz.ntmps109
  go_wp2_with (fail)
  refine (places_any _ _ _ _ _).mono ?_
  rintro e w1 ⟨rfl, h1⟩
  obtain ⟨c1, f1⟩ := bcell h1
  have y1 : w.heap.size < w1.heap.size := by have := h1.size; simp at this; omega
  go_wp2_with (fail)
  refine (hpl.out _).mono ?_
  rintro e w2 ⟨rfl, h2⟩
  obtain ⟨c2, f2⟩ := bcell h2
  have y2 := h2.lt y1
  have g1 := ((((hR.up ((Up.refl _).alloc _)).up h1).up h2).up ((Up.refl _).alloc (Obj.cells #[Value.int IntKind.i64 1, Value.int IntKind.i64 k] 179))).at_ k (by rw [hx.out]; omega)
  clear hR
  go_wp2
  go_region
  all_goals (try go_wp2)
  go_ret2
  refine ⟨rfl, ?_⟩
  exact (((((Up.refl _).alloc _).trans h1).trans h2).alloc _).drew

set_option maxHeartbeats 1000000 in
theorem load_no' (n : Nat) (a : Int) (A B : Option Addr) (c d : Nat) (w : World)
    (hpl : ∀ w, Calls Tryz.prog 155 #[.agg #[.int .i64 n, .slice A n c, .slice B n d, .int .i64 1], .int .u64 a] w fun e w' => e = .returned (.tuple #[.agg #[.int .i64 0, .int .i64 0], .bool false]) ∧ Up w w') :
    Calls Tryz.prog 109 #[.agg #[.int .i64 n, .slice A n c, .slice B n d], .int .u64 a] w fun e w' => e = .returned (.tuple #[.int .u64 0, .int .i64 2]) ∧ Up w w' := by
  have hpl := Lib.hid hpl
  go_enter Tryz.func109, Tryz.ntmps109
  go_wp2_with (fail)
  refine (places_any _ _ _ _ _).mono ?_
  rintro e w1 ⟨rfl, h1⟩
  obtain ⟨c1, f1⟩ := bcell h1
  have y1 : w.heap.size < w1.heap.size := by have := h1.size; simp at this; omega
  go_wp2_with (fail)
  refine (hpl.out _).mono ?_
  rintro e w2 ⟨rfl, h2⟩
  go_wp2
  go_ret2
  exact ⟨rfl, ((((Up.refl _).alloc _).trans h1).trans h2).alloc _⟩

/-- A place that isn't there. -/
theorem place_no (m : Me) (k a : Int) (A B : Option Addr) (c d : Nat) (hn : m.n ≤ 4096) (hk : I64 k) (k0 : 0 ≤ k) (ha : U64 a) (h : ¬ (whb a = true ∧ Runs m.n k (whp a))) (w : World) :
    Calls Tryz.prog 155 #[.agg #[.int .i64 m.n, .slice A m.n c, .slice B m.n d, .int .i64 k], .int .u64 a] w fun e w' => e = .returned (.tuple #[.agg #[.int .i64 0, .int .i64 0], .bool false]) ∧ Up w w' := by
  rcases leads_or a ha with ⟨s, p, hl⟩ | hb
  · obtain ⟨e1, e2, e3⟩ := hl.is
    exact place_far m.n k a s p A B c d hn hk k0 ha hl (fun hr => h ⟨e3, by rw [e2]; exact hr⟩) w
  · exact place_none m.n k a A B c d ha hb w

theorem there_runs {m : Me} {a : Int} (h : whb a = true ∧ Runs m.n 1 (whp a)) : m.there a := ⟨h.1, by have := h.2.1; omega⟩

/-- What is loaded, and why not. -/
theorem load_any (m : Me) (a : Int) (P Q : Addr) (c d : Nat) (w : World) (hm : Sits w m P Q c d) (ha : U64 a) :
    Calls Tryz.prog 109 #[.agg #[.int .i64 m.n, .slice (some P) m.n c, .slice (some Q) m.n d], .int .u64 a] w fun e w' => e = .returned (.tuple #[.int .u64 (m.ld a), .int .i64 (m.lde a)]) ∧ Up w w' := by
  by_cases h : m.there a
  · rw [show m.ld a = (m.sp (whs a)).getD (whp a).toNat 0 from if_pos h, show m.lde a = 0 from if_pos h]
    rcases leads_or a ha with ⟨s, p, hl⟩ | hb
    · obtain ⟨e1, e2, e3⟩ := hl.is
      have hp : p < m.n := by have := h.2; omega
      rw [e1, e2]
      rcases hl.1 with rfl | rfl
      · exact load_at0 m a p P Q c d w hm ha hl hp
      · exact load_at1 m a p P Q c d w hm ha hl hp
    · exact absurd h.1 (by rw [hb]; decide)
  · rw [show m.ld a = 0 from if_neg h, show m.lde a = 2 from if_neg h]
    exact load_no' m.n a _ _ c d w (fun w => place_no m 1 a _ _ c d hm.1.2.1 ⟨by omega, by omega⟩ (by omega) ha (fun k => h (there_runs k)) w)

end Go.Proofs.YtddoljfkbkbfjaaGreat
/-! Of stage 5 -/
namespace Go.Proofs.YtddoljfkbkbfjaaGreat
open Go.ChangeShapes Go.WideShapes Go.ChangeAt Go.RowKit
set_option linter.unusedVariables false
set_option linter.unusedSimpArgs false

/-- A word as a value. -/
def wd (x : Int) : Value := .int .u64 x
def wds (xs : List Int) : List Value := xs.map wd
theorem len_wds (xs : List Int) : (wds xs).length = xs.length := by simp [wds]
theorem one_wds (xs : List Int) : ∀ v ∈ wds xs, v.oneCell' = true := by
  intro v hv
  obtain ⟨x, _, rfl⟩ := List.mem_map.1 hv
  rfl
def zers (n : Nat) : List Int := List.replicate n 0
theorem info_u64 : (Tryz.prog.info? 54).map (fun i => (i.zero, i.size, i.bytes)) = some (some (.int .u64 0), 1, 8) := by kernel_rfl
theorem size_u64 : (Tryz.prog.info? 54).map (·.size) = some 1 := by kernel_rfl
theorem made_is (n : Nat) : madeCells #[.int .u64 0] n = (wds (zers n)).toArray := by
  apply Array.ext
  · simp [size_madeCells, len_wds, zers]
  · intro i h1 h2
    simp [madeCells, wds, zers, wd, Nat.mod_one]
theorem make_is (n : Nat) (hn : n ≤ 4096) (w : World) :
    (Instr.makeSlice 22 (.int .i64 (n : Int)) (.int .i64 (n : Int))).run Tryz.prog w = .ok (.slice (some ⟨w.heap.size, 0, none⟩) n n) (w.alloc (.cells (wds (zers n)).toArray 54)) := by
  have := run_make_row' (P := Tryz.prog) 22 54 (.int .u64 0) 8 Tryz.underlying22 info_u64 rfl .i64 .i64 n (by omega) (by omega) w
  rw [made_is] at this
  exact this

theorem add_zero' (g j : Nat) : (⟨g, 0, none⟩ : Addr).add j = ⟨g, j, none⟩ := by unfold Addr.add; split <;> simp_all
/-- A block of words is a row. -/
theorem row_of_blk {w : World} {g : Nat} {t : TypeId} {xs : List Int} (h : w.heap[g]? = some (.cells (wds xs).toArray t (0, 0))) : Row w ⟨g, 0, none⟩ xs := by
  have hlt : g < w.heap.size := by
    rcases Nat.lt_or_ge g w.heap.size with hlt | hge
    · exact hlt
    · rw [Array.getElem?_eq_none hge] at h; cases h
  refine ⟨hlt, fun j x hx => ?_⟩
  rw [add_zero', cell_of_row w g j _ t (0, 0) h]
  simp [wds, hx, wd]
theorem Row.src {w : World} {p : Addr} {xs : List Int} (h : Row w p xs) : ∀ j v, (wds xs)[j]? = some v → w.cell? (p.add j) = some v := by
  intro j v hv
  simp only [wds, List.getElem?_map, Option.map_eq_some_iff] at hv
  obtain ⟨x, hx, rfl⟩ := hv
  exact h.2 j x hx
theorem splice_all (xs ys : List Int) (h : xs.length = ys.length) : splice (wds xs) 0 (wds ys) = wds ys := by
  simp [splice, len_wds, ← h]
theorem splice_wds (xs ys : List Int) (k : Nat) : splice (wds xs) k (wds ys) = wds (splice xs k ys) := by
  simp [splice, wds]
theorem bcell' {B : Nat} {W w1 : World} (hb : Below B W w1) : (∀ b o, b < B → w1.cell? ⟨b, o, none⟩ = W.cell? ⟨b, o, none⟩) ∧ (∀ b o, b < B → w1.frozen? ⟨b, o, none⟩ = W.frozen? ⟨b, o, none⟩) :=
  ⟨fun b o h => Below.cell hb (p := ⟨b, o, none⟩) h, fun b o h => Below.frozen hb (p := ⟨b, o, none⟩) h⟩
/-- A block that is known whole. -/
def Blk (w : World) (g : Nat) (t : TypeId) (cs : Array Value) : Prop := w.heap[g]? = some (.cells cs t (0, 0))
section
variable {w w' : World} {g : Nat} {t : TypeId} {cs : Array Value}
theorem Blk.lt (h : Blk w g t cs) : g < w.heap.size := by
  rcases Nat.lt_or_ge g w.heap.size with hlt | hge
  · exact hlt
  · unfold Blk at h; rw [Array.getElem?_eq_none hge] at h; cases h
theorem Blk.cell (h : Blk w g t cs) (i : Nat) : w.cell? ⟨g, i, none⟩ = cs[i]? := cell_of_row w g i cs t (0, 0) h
theorem Blk.frozen (h : Blk w g t cs) (i : Nat) : w.frozen? ⟨g, i, none⟩ = false := by
  unfold Blk at h
  simp [World.frozen?, h]
theorem Blk.new (w : World) (t : TypeId) (cs : Array Value) : Blk (w.alloc (.cells cs t)) w.heap.size t cs := heap_alloc_new w _
theorem Blk.alloc (h : Blk w g t cs) (o : Obj) : Blk (w.alloc o) g t cs := (Below.heap_alloc w o g h.lt).trans h
theorem Blk.drew (h : Blk w g t cs) : Blk w.drew g t cs := h
theorem Blk.set_ (h : Blk w g t cs) (i : Nat) (u : Value) : Blk (w.setCell ⟨g, i, none⟩ u) g t (cs.setIfInBounds i u) := by
  unfold Blk at h ⊢
  simp [World.setCell, Array.getElem?_modify, h]
theorem Blk.far (h : Blk w g t cs) {p : Addr} (hp : g ≠ p.block) (u : Value) : Blk (w.setCell p u) g t cs := (Below.heap_setCell w p u g hp).trans h
theorem Blk.up (h : Blk w g t cs) (k : Up w w') : Blk w' g t cs := (k.block g h.lt).trans h
theorem Blk.grown {row : Option Nat} (h : Blk w g t cs) (hb : w.grownBy w' row) (hg : some g ≠ row) : Blk w' g t cs := (hb.block g h.lt hg).trans h
theorem Up.grown {a : World} {row : Option Nat} (h : Up a w) (hg : w.grownBy w' row) (hr : ∀ k, row = some k → a.heap.size ≤ k) : Up a w' := Below.grown h hg h.size hr
theorem Blk.row {xs : List Int} (h : Blk w g t (wds xs).toArray) : Row w ⟨g, 0, none⟩ xs := row_of_blk h
end

/-- A row lies in no block that is shorter. -/
theorem Row.apart {w : World} {p : Addr} {xs : List Int} {g : Nat} {t : TypeId} {cs : Array Value} (h : Row w p xs) (hb : Blk w g t cs) (hl : cs.size < xs.length) : p.block ≠ g := by
  intro e
  have hc := h.2 (xs.length - 1) xs[xs.length - 1] (List.getElem?_eq_getElem (by omega))
  unfold Blk at hb
  have ho : cs.size ≤ (p.add (xs.length - 1)).off := by
    unfold Addr.add
    split
    · omega
    · simp; omega
  unfold World.cell? at hc
  rw [block_of_add, e, hb] at hc
  simp only at hc
  split at hc
  · cases hc
  · rw [Array.getElem?_eq_none ho] at hc; cases hc
theorem Row.far {w : World} {p q : Addr} {xs : List Int} (h : Row w p xs) (hq : p.block ≠ q.block) (u : Value) : Row (w.setCell q u) p xs :=
  ⟨by simpa [World.setCell] using h.1, fun j x hx => (World.cell?_setCell_other w q (p.add j) u (fun e => hq (by rw [e, block_of_add]))).trans (h.2 j x hx)⟩
/-- Memory is as it was, where a cell of a small block is set. -/
theorem Sits.far {w : World} {m : Me} {p q : Addr} {c d g i : Nat} {t : TypeId} {cs : Array Value} (h : Sits w m p q c d) (hb : Blk w g t cs) (hl : cs.size < 16) (u : Value) : Sits (w.setCell ⟨g, i, none⟩ u) m p q c d := by
  obtain ⟨⟨h0, h1, h2, h3⟩, h4, h5, h6, h7, h8, h9⟩ := h
  exact ⟨⟨h0, h1, h2, h3⟩, h4, h5, h6, h7, h8.far (h8.apart hb (by omega)) u, h9.far (h9.apart hb (by omega)) u⟩
theorem Sits.far3 {w : World} {m : Me} {p q : Addr} {c d g : Nat} {t : TypeId} {a0 a1 a2 : Value} (h : Sits w m p q c d) (hb : Blk w g t #[a0, a1, a2]) (u0 u1 u2 : Value) :
    Sits (((w.setCell ⟨g, 0, none⟩ u0).setCell ⟨g, 1, none⟩ u1).setCell ⟨g, 2, none⟩ u2) m p q c d :=
  ((h.far hb (by simp) u0).far (hb.set_ 0 u0) (by simp) u1).far ((hb.set_ 0 u0).set_ 1 u1) (by simp) u2
theorem Up.set3 {a b : World} (h : Up a b) {g : Nat} (hg : a.heap.size ≤ g) (u0 u1 u2 : Value) : Up a (((b.setCell ⟨g, 0, none⟩ u0).setCell ⟨g, 1, none⟩ u1).setCell ⟨g, 2, none⟩ u2) :=
  ((h.setCell hg u0).setCell hg u1).setCell hg u2

theorem grownBy_setRow (w : World) (g : Nat) (cs : Array Value) : w.grownBy (w.setRow g cs) (some g) :=
  ⟨rfl, rfl, rfl, by simp [World.setRow], fun k _ hk => setRow_other w g k cs (fun e => hk (by rw [e]))⟩

/-- copy, into a block that is known whole: nothing else turns. -/
theorem wpList_copy_to {P : Program} {w : World} {ops : Array Oper} {rest : List Oper} {o : Oper} {a : Act} {Q : Exit → Act → World → Prop} (hgd : o.guard = none) (d s : Operand) (dT sT : TypeId)
    (ho : o.op = .call { callee := .builtin .copy, args := #[d, s], argTypes := #[dT, sT] }) (elem : TypeId) (hu : P.underlying dT = some (.slice elem)) (hsz : (P.info? elem).map (·.size) = some 1)
    (dp sp : Option Addr) (dLen dCap sLen sCap : Nat) (hd : a.eval d = .slice dp dLen dCap) (hs : a.eval s = .slice sp sLen sCap)
    (g off : Nat) (cur : List Value) (t : TypeId) (hg : Blk w g t cur.toArray) (cs : List Value) (hn : cs.length = Nat.min sLen dLen)
    (hpos : 0 < cs.length → dp = some ⟨g, off, none⟩ ∧ ∃ ad, sp = some ad ∧ ∀ j v, cs[j]? = some v → w.cell? (ad.add j) = some v)
    (hfit : off + cs.length ≤ cur.length) (h1 : ∀ v ∈ cs, v.oneCell' = true)
    (h : ∀ w', Blk w' g t (splice cur off cs).toArray → w.grownBy w' (some g) → wpList P ops Q rest (a.put o.dst (goInt cs.length)) w') :
    wpList P ops Q (o :: rest) a w := by
  by_cases h0 : cs.length = 0
  · obtain rfl : cs = [] := List.eq_nil_of_length_eq_zero h0
    refine wpList_copy_nothing hgd d s dT sT ho elem hu hsz dp sp dLen dCap sLen sCap hd hs (by simpa using hn.symm) ?_
    exact h w (show Blk _ _ _ _ by simpa [splice] using hg) ⟨rfl, rfl, rfl, Nat.le_refl _, fun _ _ _ => rfl⟩
  · obtain ⟨rfl, ad, rfl, hsrc⟩ := hpos (by omega)
    refine wpList_copy_own hgd d s dT sT ho elem hu hsz g off dLen dCap ad sLen sCap hd hs cur.toArray t hg cs hn hsrc (by simpa using hfit) h1 ?_
    exact h _ (show Blk _ _ _ _ by unfold Blk; simpa [splice] using setRow_heap w g _ _ t _ hg) (grownBy_setRow _ _ _)

theorem step_copy_to {P : Program} {ops : Array Oper} {o : Oper} {a : Act} {w : World} {K : Act → World → Prop} {Q : Exit → Act → World → Prop} {E : Prop} (hgd : o.guard = none) (d s : Operand) (dT sT : TypeId)
    (ho : o.op = .call { callee := .builtin .copy, args := #[d, s], argTypes := #[dT, sT] }) (elem : TypeId) (hu : P.underlying dT = some (.slice elem)) (hsz : (P.info? elem).map (·.size) = some 1)
    (dp sp : Option Addr) (dLen dCap sLen sCap : Nat) (hd : a.eval d = .slice dp dLen dCap) (hs : a.eval s = .slice sp sLen sCap)
    (g off : Nat) (cur : List Value) (t : TypeId) (hg : Blk w g t cur.toArray) (cs : List Value) (hn : cs.length = Nat.min sLen dLen)
    (hpos : 0 < cs.length → dp = some ⟨g, off, none⟩ ∧ ∃ ad, sp = some ad ∧ ∀ j v, cs[j]? = some v → w.cell? (ad.add j) = some v)
    (hfit : off + cs.length ≤ cur.length) (h1 : ∀ v ∈ cs, v.oneCell' = true)
    (h : ∀ w', Blk w' g t (splice cur off cs).toArray → w.grownBy w' (some g) → K (a.put o.dst (goInt cs.length)) w') :
    if Region.wanted o (yielded ops a.tmps) = true then Oper.wp P o a w K Q else E := by
  have hw : Region.wanted o (yielded ops a.tmps) = true := by simp [Region.wanted, hgd]
  rw [if_pos hw]
  by_cases h0 : cs.length = 0
  · obtain rfl : cs = [] := List.eq_nil_of_length_eq_zero h0
    have hrun := run_copy_none (P := P) w dT sT o.type elem dp sp dLen dCap sLen sCap hu hsz (by simpa using hn.symm)
    unfold Oper.wp
    simp [execOp, ho, resolve, invoke, builtin, hd, hs, hrun, Result.andThen]
    exact h w (show Blk _ _ _ _ by simpa [splice] using hg) ⟨rfl, rfl, rfl, Nat.le_refl _, fun _ _ _ => rfl⟩
  · obtain ⟨rfl, ad, rfl, hsrc⟩ := hpos (by omega)
    have hrun := run_copy_row (P := P) w dT sT o.type elem g off dLen dCap ad sLen sCap cur.toArray t cs hu hsz hg hn hsrc (by simpa using hfit) h1
    unfold Oper.wp
    simp [execOp, ho, resolve, invoke, builtin, hd, hs, hrun, Result.andThen]
    exact h _ (show Blk _ _ _ _ by unfold Blk; simpa [splice] using setRow_heap w g _ _ t _ hg) (grownBy_setRow _ _ _)

/-- A region that draws its order, whose first operations only read: the world behind the draw under a name. -/
theorem region_tail {P : Program} {id : Nat} {Q : Exit → Act → World → Prop} {a : Act} {w : World} {l : List Oper} (n : Nat) (hm : P.follows .mixedOrders = true) (hB : Region.lexTailB .any l.toArray n = true) (W : World) (hW : W = w.drew)
    (h : wpStill P l.toArray W (fun a' => wpList P l.toArray Q (l.drop n) a' W) (l.take n) a) : (Code.region id l.toArray true).wp P Q a w := by
  subst hW
  exact wp_region_still_tail n hm hB h

/-- The walk halts at an operation. -/
def Halt (p : Prop) : Prop := p
theorem halt_at {P : Program} {ops : Array Oper} {rest : List Oper} {o : Oper} {a : Act} {w : World} {Q : Exit → Act → World → Prop} (h : Halt (wpList P ops Q (o :: rest) a w)) : wpList P ops Q (o :: rest) a w := h

end Go.Proofs.YtddoljfkbkbfjaaGreat
/-! Of stage 5 -/
namespace Go.Proofs.YtddoljfkbkbfjaaGreat
open Go.ChangeShapes Go.WideShapes Go.ChangeAt Go.RowKit
set_option linter.unusedVariables false
set_option linter.unusedSimpArgs false

/-- Memory is handed back. -/
def Gives (w : World) (m : Me) (e : Ending) (w' : World) : Prop := ∃ P Q c d, e = .returned (.agg #[.int .i64 m.n, .slice (some P) m.n c, .slice (some Q) m.n d]) ∧ Sits w' m P Q c d ∧ Up w w'

set_option maxHeartbeats 2000000 in
theorem lay_0 (n : Nat) (xs ys ws : List Int) (k : Nat) (P Q R : Addr) (c d cw : Nat) (w : World) (h16 : 16 ≤ n) (hn : n ≤ 4096) (hx : xs.length = n) (hy : ys.length = n)
    (hP : Row w P xs) (hQ : Row w Q ys) (hR : Row w R ws) (hk : k < n) (hw : k + ws.length ≤ n) :
    Calls Tryz.prog 145 #[.agg #[.int .i64 n, .slice (some P) n c, .slice (some Q) n d], .agg #[.int .i64 0, .int .i64 k], .slice (some R) ws.length cw] w (Gives w ⟨n, splice xs k ws, ys⟩) := by
  have hmk := make_is n hn
  have Hx := Lib.hid hx
  have Hy := Lib.hid hy
  clear hx hy
  go_enter Tryz.func145, Tryz.ntmps145
  go_wp2
  refine wp_loop_rounds 3 ?_
  rw [rounds_succ]
  go_wp2_with (with_reducible refine halt_at (o := ⟨some 23, _, _, _, _, _⟩) ?_)
  unfold Halt
  refine wpList_copy_to rfl (.tmp 18) (.tmp 22) 22 22 rfl 54 Tryz.underlying22 size_u64 _ _ n n n c rfl rfl _ 0 (wds (zers n)) 54 (Blk.new _ _ _) (wds xs) ?c1 ?c2 ?c3 (one_wds _) ?_
  case c1 => rw [len_wds, Hx.out]; exact (Nat.min_self n).symm
  case c2 => intro _; exact ⟨by simp, P, rfl, (hP.up ((((Up.refl _).alloc _).alloc _).alloc _ |>.alloc _)).src⟩
  case c3 => rw [len_wds, len_wds, Hx.out]; simp [zers]
  intro w1 X1 B1
  rw [splice_all _ _ (by rw [Hx.out]; simp [zers])] at X1
  have D1 := (((Blk.new w 25 _).alloc _ |>.alloc _).alloc _).grown B1 (by simp <;> omega)
  have E1 := (((Blk.new _ 179 _).alloc _).alloc _).grown B1 (by simp <;> omega)
  have F1 := ((Blk.new _ 25 _).alloc _).grown B1 (by simp <;> omega)
  have U1 : Up w w1 := ((((Up.refl w).alloc _).alloc _).alloc _ |>.alloc _).grown B1 (by rintro _ ⟨⟩; simp; omega)
  simp at X1 D1 E1 F1
  clear B1
  have D1c := D1.cell
  have D1f := D1.frozen
  have D1l := D1.lt
  go_wp2_with (with_reducible refine halt_at (o := ⟨some 23, _, _, _, _, _⟩) ?_)
  rw [rounds_succ]
  go_wp2_with (with_reducible refine halt_at (o := ⟨some 23, _, _, _, _, _⟩) ?_)
  unfold Halt
  refine wpList_copy_to rfl (.tmp 18) (.tmp 22) 22 22 rfl 54 Tryz.underlying22 size_u64 _ _ n n n d rfl rfl _ 0 (wds (zers n)) 54 (Blk.new _ _ _) (wds ys) ?d1 ?d2 ?d3 (one_wds _) ?_
  case d1 => rw [len_wds, Hy.out]; exact (Nat.min_self n).symm
  case d2 => intro _; exact ⟨by simp, Q, rfl, (hQ.up ((U1.setCell (Nat.le_refl _) _).alloc _)).src⟩
  case d3 => rw [len_wds, len_wds, Hy.out]; simp [zers]
  intro w2 Y2 B2
  rw [splice_all _ _ (by rw [Hy.out]; simp [zers])] at Y2
  have D2 := ((D1.set_ 1 _).alloc _).grown B2 (by simp <;> omega)
  have X2 := ((X1.far (by simp <;> omega) _).alloc _).grown B2 (by have := X1.lt; simp <;> omega)
  have E2 := ((E1.far (by simp <;> omega) _).alloc _).grown B2 (by have := E1.lt; simp <;> omega)
  have F2 := ((F1.far (by simp <;> omega) _).alloc _).grown B2 (by have := F1.lt; simp <;> omega)
  have U2 : Up w w2 := ((U1.setCell (Nat.le_refl _) _).alloc _).grown B2 (by rintro _ ⟨⟩; have := U1.size; simp; omega)
  simp at Y2 D2 E2 F2
  have hlt := X1.lt
  clear B2 D1 E1 F1 X1 D1c D1f
  have D2c := D2.cell
  have D2f := D2.frozen
  have E2c := E2.cell
  have l1 := D2.lt
  have l2 := E2.lt
  have l3 := F2.lt
  go_wp2_with (fail)
  rw [rounds_succ]
  go_wp2_with (fail)
  have T3 : Blk (w2.setCell ⟨w.heap.size, 2, none⟩ (.slice (some ⟨w1.heap.size, 0, none⟩) n n)) (w.heap.size + 1 + 1 + 1) 54 (wds xs).toArray := X2.far (by simp <;> omega) _
  have R3 := Lib.hid (hR.up (U2.setCell (p := ⟨w.heap.size, 2, none⟩) (Nat.le_refl _) (.slice (some ⟨w1.heap.size, 0, none⟩) n n))).src
  have hkn : ¬ n = k := by omega
  have hkn' : k ≤ n := by omega
  go_region_law (refine step_copy_to rfl (.tmp 36) (.tmp 37) 22 22 rfl 54 Tryz.underlying22 size_u64 (some ⟨(w.heap.size + 1 + 1 + 1), k, none⟩) (some R) (n - k) (n - k) ws.length cw (by simp [Act.eval, Act.put]) (by simp [Act.eval, Act.put]) (w.heap.size + 1 + 1 + 1) k (wds xs) 54 T3 (wds ws) (by rw [len_wds]; show _ = min _ _; omega) (fun _ => ⟨rfl, R, rfl, R3.out⟩) (by rw [len_wds, len_wds, Hx.out]; omega) (one_wds _) ?_; intro w3 T4 B3)
  all_goals
    have D3 := (D2.set_ 2 (.slice (some ⟨w1.heap.size, 0, none⟩) n n)).drew.grown B3 (by simp <;> omega)
    have F3 := (F2.far (p := ⟨w.heap.size, 2, none⟩) (by simp <;> omega) (.slice (some ⟨w1.heap.size, 0, none⟩) n n)).drew.grown B3 (by simp <;> omega)
    have O3 := (Y2.far (p := ⟨w.heap.size, 2, none⟩) (by simp <;> omega) (.slice (some ⟨w1.heap.size, 0, none⟩) n n)).drew.grown B3 (by have := hlt; simp <;> omega)
    have U3 : Up w w3 := (U2.setCell (Nat.le_refl _) _).drew.grown B3 (by rintro _ ⟨⟩; omega)
    simp at D3
    clear B3 D2 E2 F2 X2 Y2 D2c D2f E2c T3 R3
    rw [splice_wds] at T4
    have D3c := D3.cell
    have F3c := F3.cell
    have F3f := F3.frozen
    go_wp2
    refine bodyPost_ret (v := .agg #[.int .i64 n, .slice (some ⟨w.heap.size + 1 + 1 + 1, 0, none⟩) n n, .slice (some ⟨w1.heap.size, 0, none⟩) n n]) (by simp [results, Tryz.results145, go_sem, F3c]) rfl ?_
    have T5 := ((T4.far (p := ⟨w.heap.size + 1 + 1, 0, none⟩) (by simp <;> omega) (.int .i64 n)).far (p := ⟨w.heap.size + 1 + 1, 1, none⟩) (by simp <;> omega) (.slice (some ⟨w.heap.size + 1 + 1 + 1, 0, none⟩) n n)).far (p := ⟨w.heap.size + 1 + 1, 2, none⟩) (by simp <;> omega) (.slice (some ⟨w1.heap.size, 0, none⟩) n n)
    have O5 := ((O3.far (p := ⟨w.heap.size + 1 + 1, 0, none⟩) (by simp <;> omega) (.int .i64 n)).far (p := ⟨w.heap.size + 1 + 1, 1, none⟩) (by simp <;> omega) (.slice (some ⟨w.heap.size + 1 + 1 + 1, 0, none⟩) n n)).far (p := ⟨w.heap.size + 1 + 1, 2, none⟩) (by simp <;> omega) (.slice (some ⟨w1.heap.size, 0, none⟩) n n)
    have hL : (splice xs k ws).length = n := by rw [length_splice _ _ _ (by rw [Hx.out]; exact hw), Hx.out]
    refine ⟨⟨w.heap.size + 1 + 1 + 1, 0, none⟩, ⟨w1.heap.size, 0, none⟩, n, n, rfl, ⟨⟨h16, hn, hL, Hy.out⟩, Nat.le_refl _, by unfold maxLen; show n ≤ _; omega, Nat.le_refl _, by unfold maxLen; show n ≤ _; omega, T5.row, O5.row⟩, ?_⟩
    exact ((U3.setCell (by simp <;> omega) _).setCell (by simp <;> omega) _).setCell (by simp <;> omega) _

set_option maxHeartbeats 2000000 in
theorem lay_1 (n : Nat) (xs ys ws : List Int) (k : Nat) (P Q R : Addr) (c d cw : Nat) (w : World) (h16 : 16 ≤ n) (hn : n ≤ 4096) (hx : xs.length = n) (hy : ys.length = n)
    (hP : Row w P xs) (hQ : Row w Q ys) (hR : Row w R ws) (hk : k < n) (hw : k + ws.length ≤ n) :
    Calls Tryz.prog 145 #[.agg #[.int .i64 n, .slice (some P) n c, .slice (some Q) n d], .agg #[.int .i64 1, .int .i64 k], .slice (some R) ws.length cw] w (Gives w ⟨n, xs, splice ys k ws⟩) := by
  have hmk := make_is n hn
  have Hx := Lib.hid hx
  have Hy := Lib.hid hy
  clear hx hy
  go_enter Tryz.func145, Tryz.ntmps145
  go_wp2
  refine wp_loop_rounds 3 ?_
  rw [rounds_succ]
  go_wp2_with (with_reducible refine halt_at (o := ⟨some 23, _, _, _, _, _⟩) ?_)
  unfold Halt
  refine wpList_copy_to rfl (.tmp 18) (.tmp 22) 22 22 rfl 54 Tryz.underlying22 size_u64 _ _ n n n c rfl rfl _ 0 (wds (zers n)) 54 (Blk.new _ _ _) (wds xs) ?c1 ?c2 ?c3 (one_wds _) ?_
  case c1 => rw [len_wds, Hx.out]; exact (Nat.min_self n).symm
  case c2 => intro _; exact ⟨by simp, P, rfl, (hP.up ((((Up.refl _).alloc _).alloc _).alloc _ |>.alloc _)).src⟩
  case c3 => rw [len_wds, len_wds, Hx.out]; simp [zers]
  intro w1 X1 B1
  rw [splice_all _ _ (by rw [Hx.out]; simp [zers])] at X1
  have D1 := (((Blk.new w 25 _).alloc _ |>.alloc _).alloc _).grown B1 (by simp <;> omega)
  have E1 := (((Blk.new _ 179 _).alloc _).alloc _).grown B1 (by simp <;> omega)
  have F1 := ((Blk.new _ 25 _).alloc _).grown B1 (by simp <;> omega)
  have U1 : Up w w1 := ((((Up.refl w).alloc _).alloc _).alloc _ |>.alloc _).grown B1 (by rintro _ ⟨⟩; simp; omega)
  simp at X1 D1 E1 F1
  clear B1
  have D1c := D1.cell
  have D1f := D1.frozen
  have D1l := D1.lt
  go_wp2_with (with_reducible refine halt_at (o := ⟨some 23, _, _, _, _, _⟩) ?_)
  rw [rounds_succ]
  go_wp2_with (with_reducible refine halt_at (o := ⟨some 23, _, _, _, _, _⟩) ?_)
  unfold Halt
  refine wpList_copy_to rfl (.tmp 18) (.tmp 22) 22 22 rfl 54 Tryz.underlying22 size_u64 _ _ n n n d rfl rfl _ 0 (wds (zers n)) 54 (Blk.new _ _ _) (wds ys) ?d1 ?d2 ?d3 (one_wds _) ?_
  case d1 => rw [len_wds, Hy.out]; exact (Nat.min_self n).symm
  case d2 => intro _; exact ⟨by simp, Q, rfl, (hQ.up ((U1.setCell (Nat.le_refl _) _).alloc _)).src⟩
  case d3 => rw [len_wds, len_wds, Hy.out]; simp [zers]
  intro w2 Y2 B2
  rw [splice_all _ _ (by rw [Hy.out]; simp [zers])] at Y2
  have D2 := ((D1.set_ 1 _).alloc _).grown B2 (by simp <;> omega)
  have X2 := ((X1.far (by simp <;> omega) _).alloc _).grown B2 (by have := X1.lt; simp <;> omega)
  have E2 := ((E1.far (by simp <;> omega) _).alloc _).grown B2 (by have := E1.lt; simp <;> omega)
  have F2 := ((F1.far (by simp <;> omega) _).alloc _).grown B2 (by have := F1.lt; simp <;> omega)
  have U2 : Up w w2 := ((U1.setCell (Nat.le_refl _) _).alloc _).grown B2 (by rintro _ ⟨⟩; have := U1.size; simp; omega)
  simp at Y2 D2 E2 F2
  have hlt := X1.lt
  clear B2 D1 E1 F1 X1 D1c D1f
  have D2c := D2.cell
  have D2f := D2.frozen
  have E2c := E2.cell
  have l1 := D2.lt
  have l2 := E2.lt
  have l3 := F2.lt
  go_wp2_with (fail)
  rw [rounds_succ]
  go_wp2_with (fail)
  have T3 : Blk (w2.setCell ⟨w.heap.size, 2, none⟩ (.slice (some ⟨w1.heap.size, 0, none⟩) n n)) w1.heap.size 54 (wds ys).toArray := Y2.far (by simp <;> omega) _
  have R3 := Lib.hid (hR.up (U2.setCell (p := ⟨w.heap.size, 2, none⟩) (Nat.le_refl _) (.slice (some ⟨w1.heap.size, 0, none⟩) n n))).src
  have hkn : ¬ n = k := by omega
  have hkn' : k ≤ n := by omega
  go_region_law (refine step_copy_to rfl (.tmp 36) (.tmp 37) 22 22 rfl 54 Tryz.underlying22 size_u64 (some ⟨w1.heap.size, k, none⟩) (some R) (n - k) (n - k) ws.length cw (by simp [Act.eval, Act.put]) (by simp [Act.eval, Act.put]) w1.heap.size k (wds ys) 54 T3 (wds ws) (by rw [len_wds]; show _ = min _ _; omega) (fun _ => ⟨rfl, R, rfl, R3.out⟩) (by rw [len_wds, len_wds, Hy.out]; omega) (one_wds _) ?_; intro w3 T4 B3)
  all_goals
    have D3 := (D2.set_ 2 (.slice (some ⟨w1.heap.size, 0, none⟩) n n)).drew.grown B3 (by simp <;> omega)
    have F3 := (F2.far (p := ⟨w.heap.size, 2, none⟩) (by simp <;> omega) (.slice (some ⟨w1.heap.size, 0, none⟩) n n)).drew.grown B3 (by simp <;> omega)
    have O3 := (X2.far (p := ⟨w.heap.size, 2, none⟩) (by simp <;> omega) (.slice (some ⟨w1.heap.size, 0, none⟩) n n)).drew.grown B3 (by have := hlt; simp <;> omega)
    have U3 : Up w w3 := (U2.setCell (Nat.le_refl _) _).drew.grown B3 (by rintro _ ⟨⟩; omega)
    simp at D3
    clear B3 D2 E2 F2 X2 Y2 D2c D2f E2c T3 R3
    rw [splice_wds] at T4
    have D3c := D3.cell
    have F3c := F3.cell
    have F3f := F3.frozen
    go_wp2
    refine bodyPost_ret (v := .agg #[.int .i64 n, .slice (some ⟨w.heap.size + 1 + 1 + 1, 0, none⟩) n n, .slice (some ⟨w1.heap.size, 0, none⟩) n n]) (by simp [results, Tryz.results145, go_sem, F3c]) rfl ?_
    have T5 := ((T4.far (p := ⟨w.heap.size + 1 + 1, 0, none⟩) (by simp <;> omega) (.int .i64 n)).far (p := ⟨w.heap.size + 1 + 1, 1, none⟩) (by simp <;> omega) (.slice (some ⟨w.heap.size + 1 + 1 + 1, 0, none⟩) n n)).far (p := ⟨w.heap.size + 1 + 1, 2, none⟩) (by simp <;> omega) (.slice (some ⟨w1.heap.size, 0, none⟩) n n)
    have O5 := ((O3.far (p := ⟨w.heap.size + 1 + 1, 0, none⟩) (by simp <;> omega) (.int .i64 n)).far (p := ⟨w.heap.size + 1 + 1, 1, none⟩) (by simp <;> omega) (.slice (some ⟨w.heap.size + 1 + 1 + 1, 0, none⟩) n n)).far (p := ⟨w.heap.size + 1 + 1, 2, none⟩) (by simp <;> omega) (.slice (some ⟨w1.heap.size, 0, none⟩) n n)
    have hL : (splice ys k ws).length = n := by rw [length_splice _ _ _ (by rw [Hy.out]; exact hw), Hy.out]
    refine ⟨⟨w.heap.size + 1 + 1 + 1, 0, none⟩, ⟨w1.heap.size, 0, none⟩, n, n, rfl, ⟨⟨h16, hn, Hx.out, hL⟩, Nat.le_refl _, by unfold maxLen; show n ≤ _; omega, Nat.le_refl _, by unfold maxLen; show n ≤ _; omega, O5.row, T5.row⟩, ?_⟩
    exact ((U3.setCell (by simp <;> omega) _).setCell (by simp <;> omega) _).setCell (by simp <;> omega) _

/-- Memory with these words from a place on. -/
theorem lay_any (m : Me) (s : Int) (ws : List Int) (k : Nat) (P Q R : Addr) (c d cw : Nat) (w : World) (hm : Sits w m P Q c d) (hs : s = 0 ∨ s = 1) (hR : Row w R ws) (hk : k < m.n) (hw : k + ws.length ≤ m.n) :
    Calls Tryz.prog 145 #[.agg #[.int .i64 m.n, .slice (some P) m.n c, .slice (some Q) m.n d], .agg #[.int .i64 s, .int .i64 k], .slice (some R) ws.length cw] w (Gives w (m.put s (splice (m.sp s) k ws))) := by
  obtain ⟨n, xs, ys⟩ := m
  obtain ⟨⟨h16, hn, hx, hy⟩, _, _, _, _, hP, hQ⟩ := hm
  rcases hs with rfl | rfl
  · exact lay_0 n xs ys ws k P Q R c d cw w h16 hn hx hy hP hQ hR hk hw
  · exact lay_1 n xs ys ws k P Q R c d cw w h16 hn hx hy hP hQ hR hk hw

end Go.Proofs.YtddoljfkbkbfjaaGreat
/-! Of stage 5 -/
namespace Go.Proofs.YtddoljfkbkbfjaaGreat
open Go.ChangeShapes Go.WideShapes Go.ChangeAt Go.RowKit
set_option linter.unusedVariables false
set_option linter.unusedSimpArgs false

/-- Memory is handed back, and one thing more; two. -/
def Gives1 (w : World) (m : Me) (x : Value) (e : Ending) (w' : World) : Prop := ∃ P Q c d, e = .returned (.tuple #[.agg #[.int .i64 m.n, .slice (some P) m.n c, .slice (some Q) m.n d], x]) ∧ Sits w' m P Q c d ∧ Up w w'
def Gives2 (w : World) (m : Me) (x y : Value) (e : Ending) (w' : World) : Prop := ∃ P Q c d, e = .returned (.tuple #[.agg #[.int .i64 m.n, .slice (some P) m.n c, .slice (some Q) m.n d], x, y]) ∧ Sits w' m P Q c d ∧ Up w w'

theorem blk_row1 {w : World} {g : Nat} {t : TypeId} {v : Int} (h : Blk w g t #[.int .u64 v]) : Row w ⟨g, 0, none⟩ [v] := row_of_blk (xs := [v]) h

set_option maxHeartbeats 2000000 in
theorem store_at (n : Nat) (xs ys : List Int) (a s v : Int) (k : Nat) (P Q : Addr) (c d : Nat) (w : World) (hm : Sits w ⟨n, xs, ys⟩ P Q c d) (ha : U64 a) (hl : Leads a s k) (hk : k < n) :
    Calls Tryz.prog 127 #[.agg #[.int .i64 n, .slice (some P) n c, .slice (some Q) n d], .int .u64 a, .int .u64 v] w (Gives1 w (Me.put ⟨n, xs, ys⟩ s (splice (Me.sp ⟨n, xs, ys⟩ s) k [v])) (.int .i64 0)) := by
  have hpl := Lib.hid (fun w => place_yes n 1 a s k (some P) (some Q) c d hm.1.2.1 (by omega) ha hl ⟨by omega, by omega⟩ w)
  have hlay := Lib.hid (fun (W : World) (R : Addr) (cw : Nat) (hR : Row W R [v]) (hU : Up w W) => lay_any ⟨n, xs, ys⟩ s [v] k P Q R c d cw W (hm.up hU) hl.1 hR hk (by simp; omega))
  generalize Me.put ⟨n, xs, ys⟩ s (splice (Me.sp ⟨n, xs, ys⟩ s) k [v]) = M at hlay ⊢
  clear ha hl hm
  go_enter Tryz.func127, Tryz.ntmps127
  go_wp2_with (fail)
  refine (places_any _ _ _ _ _).mono ?_
  rintro e w1 ⟨rfl, h1⟩
  have D1 := ((Blk.new w 25 _).alloc _).up h1
  have F1 := (Blk.new _ 25 _).up h1
  simp at F1
  go_wp2_with (fail)
  refine (hpl.out _).mono ?_
  rintro e w2 ⟨rfl, h2⟩
  have D2 := D1.up h2
  have F2 := F1.up h2
  have U2 : Up w w2 := (((Up.refl w).alloc _).alloc _).trans h1 |>.trans h2
  clear D1 F1 h1 h2
  have D2c := D2.cell
  have D2l := D2.lt
  have F2l := F2.lt
  go_wp2_with (fail)
  refine (hlay.out _ ⟨w2.heap.size + 1, 0, none⟩ 1 (blk_row1 (t := 54) (by simpa using Blk.new (w2.alloc _) 54 _)) ((U2.alloc _).alloc _)).mono ?_
  rintro e w3 ⟨P', Q', c', d', rfl, hS, h3⟩
  have F3 := ((F2.alloc _).alloc _).up h3
  have U3 := ((U2.alloc _).alloc _).trans h3
  have F3c := F3.cell
  have F3f := F3.frozen
  clear D2 F2 D2c h3 U2
  go_wp2
  refine bodyPost_ret (v := .tuple #[.agg #[.int .i64 M.n, .slice (some P') M.n c', .slice (some Q') M.n d'], .int .i64 0]) (by simp [results, Tryz.results127, go_sem, F3c]) rfl ?_
  exact ⟨P', Q', c', d', rfl, hS.far3 F3 _ _ _, U3.set3 (by omega) _ _ _⟩

set_option maxHeartbeats 2000000 in
theorem store_no (m : Me) (a v : Int) (P Q : Addr) (c d : Nat) (w : World) (hm : Sits w m P Q c d) (ha : U64 a) (hn : ¬ m.there a) :
    Calls Tryz.prog 127 #[.agg #[.int .i64 m.n, .slice (some P) m.n c, .slice (some Q) m.n d], .int .u64 a, .int .u64 v] w (Gives1 w m (.int .i64 2)) := by
  have hpl := Lib.hid (fun w => place_no m 1 a (some P) (some Q) c d hm.1.2.1 ⟨by omega, by omega⟩ (by omega) ha (fun k => hn (there_runs k)) w)
  have HM := Lib.hid hm
  clear ha hn hm
  go_enter Tryz.func127, Tryz.ntmps127
  go_wp2_with (fail)
  refine (places_any _ _ _ _ _).mono ?_
  rintro e w1 ⟨rfl, h1⟩
  have D1 := ((Blk.new w 25 _).alloc _).up h1
  have F1 := (Blk.new _ 25 _).up h1
  simp at F1
  go_wp2_with (fail)
  refine (hpl.out _).mono ?_
  rintro e w2 ⟨rfl, h2⟩
  have D2 := D1.up h2
  have F2 := F1.up h2
  have U2 : Up w w2 := (((Up.refl w).alloc _).alloc _).trans h1 |>.trans h2
  clear D1 F1 h1 h2
  have D2c := D2.cell
  have D2l := D2.lt
  have F2c := F2.cell
  have F2f := F2.frozen
  have F2l := F2.lt
  go_wp2
  refine bodyPost_ret (v := .tuple #[.agg #[.int .i64 m.n, .slice (some P) m.n c, .slice (some Q) m.n d], .int .i64 2]) (by simp [results, Tryz.results127, go_sem, F2c, F2l]) rfl ?_
  exact ⟨P, Q, c, d, rfl, ((HM.out.up U2).far3 F2 _ _ _).up ((Up.refl _).alloc _), (U2.set3 (by omega) _ _ _).alloc _⟩

theorem splice_one (l : List Int) (k : Nat) (v : Int) (h : k < l.length) : splice l k [v] = l.set k v := by
  rw [List.set_eq_take_append_cons_drop, if_pos h]
  simp [splice]
theorem Me.len_sp {m : Me} (h : m.ok) (s : Int) : (m.sp s).length = m.n := by
  unfold Me.sp
  split
  · exact h.2.2.2
  · exact h.2.2.1

/-- What is stored, and why not. -/
theorem store_any (m : Me) (a v : Int) (P Q : Addr) (c d : Nat) (w : World) (hm : Sits w m P Q c d) (ha : U64 a) :
    Calls Tryz.prog 127 #[.agg #[.int .i64 m.n, .slice (some P) m.n c, .slice (some Q) m.n d], .int .u64 a, .int .u64 v] w (Gives1 w (m.st a v) (.int .i64 (m.lde a))) := by
  by_cases h : m.there a
  · rcases leads_or a ha with ⟨s, p, hl⟩ | hb
    · obtain ⟨e1, e2, e3⟩ := hl.is
      obtain ⟨k, rfl⟩ : ∃ k : Nat, p = k := ⟨p.toNat, by have := hl.2.1; omega⟩
      have hp : k < m.n := by have := h.2; omega
      rw [show m.st a v = m.put (whs a) ((m.sp (whs a)).set (whp a).toNat v) from if_pos h, show m.lde a = 0 from if_pos h, e1, e2, Int.toNat_natCast, ← splice_one _ _ _ (by rw [Me.len_sp hm.1]; exact hp)]
      exact store_at m.n m.xs m.ys a s v k P Q c d w hm ha hl hp
    · exact absurd h.1 (by rw [hb]; decide)
  · rw [show m.st a v = m from if_neg h, show m.lde a = 2 from if_neg h]
    exact store_no m a v P Q c d w hm ha h

/-! ### Swap -/
/-- Is it swapped? -/
def Me.swb (m : Me) (a old : Int) : Bool := decide (m.there a ∧ m.ld a = old)
def Me.sw (m : Me) (a old new : Int) : Me := if m.there a ∧ m.ld a = old then m.st a new else m


end Go.Proofs.YtddoljfkbkbfjaaGreat
