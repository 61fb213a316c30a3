/- The program's own sizes and addresses (package size) are as the document says: contracts of its functions, for every number. -/
import Derived.Test.YtnfanedkbfopkaaRows
import Derived.WalkKit
import Derived.ProofKit
import Derived.OpenShut
import Derived.WalkLawsBesides
import Derived.Lib.Hide
import Derived.Laws.StructEq
import Derived.Laws.MathBits
import Derived.Laws.Rows
import Derived.LoopN
namespace Go.Proofs.Ytnfanedkbfopkaa
open Go.ChangeShapes Go.WideShapes Go.ChangeAt Go.RowKit
set_option linter.unusedVariables false

theorem grown_trans {a b c : World} (h : Grown a b) (k : Grown b c) : Grown a c :=
  ⟨World.keptBut_trans h.1 k.1, fun x => (k.2.1 x).trans (h.2.1 x), Nat.le_trans h.2.2 k.2.2⟩

theorem ret_int {k : IntKind} {a b : Int} (h : a = b) : Ending.returned (.int k a) = .returned (.int k b) := by rw [h]

/-- A whole number of the machine. -/
def I64 (a : Int) : Prop := -9223372036854775808 ≤ a ∧ a ≤ 9223372036854775807

/-- May the two be summed? -/
def sumok (a b : Int) : Prop := 0 ≤ a ∧ 0 ≤ b ∧ a + b ≤ 9223372036854775807
instance decSum (a b : Int) : Decidable (sumok a b) := by unfold sumok; infer_instance

set_option maxHeartbeats 400000 in
theorem add_ok (a b : Int) (h : sumok a b) (w : World) :
    Calls Try.prog 11 #[.int .i64 a, .int .i64 b] w fun e w' => e = .returned (.tuple #[.int .i64 (a + b), .bool true]) ∧ Grown w w' := by
  obtain ⟨h0, h1, h2⟩ := h
  have n0 : ¬ a < 0 := by omega
  have n1 : ¬ b < 0 := by omega
  have n2 : ¬ (9223372036854775807 - b < a) := by omega
  have u0 : a ≤ 9223372036854775807 := by omega
  have u1 : b ≤ 9223372036854775807 := by omega
  go_enter Try.func11, Try.ntmps11
  go_wp2
  go_ret2
  exact ⟨rfl, ((Grown.refl _).alloc _ _).alloc _ _⟩

set_option maxHeartbeats 400000 in
theorem add_no (a b : Int) (ha : I64 a) (hb : I64 b) (h : ¬ sumok a b) (w : World) :
    Calls Try.prog 11 #[.int .i64 a, .int .i64 b] w fun e w' => e = .returned (.tuple #[.int .i64 0, .bool false]) ∧ Grown w w' := by
  obtain ⟨a0, a1⟩ := ha
  obtain ⟨b0, b1⟩ := hb
  unfold sumok at h
  by_cases n0 : a < 0
  · go_enter Try.func11, Try.ntmps11
    go_wp2
    go_ret2
    exact ⟨rfl, ((Grown.refl _).alloc _ _).alloc _ _⟩
  by_cases n1 : b < 0
  · go_enter Try.func11, Try.ntmps11
    go_wp2
    go_ret2
    exact ⟨rfl, ((Grown.refl _).alloc _ _).alloc _ _⟩
  have n2 : 9223372036854775807 - b < a := by omega
  have m1 : 0 ≤ b := by omega
  clear h
  go_enter Try.func11, Try.ntmps11
  go_wp2
  go_ret2
  exact ⟨rfl, ((Grown.refl _).alloc _ _).alloc _ _⟩

set_option maxHeartbeats 400000 in
theorem obj_ok (n : Int) (h0 : 0 ≤ n) (h1 : n ≤ 16) (w : World) :
    Calls Try.prog 13 #[.int .i64 n] w fun e w' => e = .returned (.tuple #[.int .i64 (n + 2), .int .i64 0]) ∧ w = w' := by
  go_enter Try.func13, Try.ntmps13
  go_wp2
  go_ret2
  exact ⟨congrArg (fun z => Ending.returned (.tuple #[.int .i64 z, .int .i64 0])) (Int.add_comm 2 n), rfl⟩

set_option maxHeartbeats 400000 in
theorem obj_arg (n : Int) (h0 : n < 0) (w : World) :
    Calls Try.prog 13 #[.int .i64 n] w fun e w' => e = .returned (.tuple #[.int .i64 0, .int .i64 1]) ∧ w = w' := by
  go_enter Try.func13, Try.ntmps13
  go_wp2
  go_ret2
  exact ⟨rfl, rfl⟩

set_option maxHeartbeats 400000 in
theorem obj_big (n : Int) (h0 : 16 < n) (w : World) :
    Calls Try.prog 13 #[.int .i64 n] w fun e w' => e = .returned (.tuple #[.int .i64 0, .int .i64 3]) ∧ w = w' := by
  have h1 : 0 ≤ n := by omega
  go_enter Try.func13, Try.ntmps13
  go_wp2
  go_ret2
  exact ⟨rfl, rfl⟩

/-- Does it fit? -/
def fit (a n words : Int) : Prop := 0 ≤ a ∧ 0 ≤ n ∧ a + n ≤ words
instance decFit (a n words : Int) : Decidable (fit a n words) := by unfold fit; infer_instance

set_option maxHeartbeats 400000 in
theorem fits_yes (a n m : Int) (hm : I64 m) (h : fit a n m) (w : World) :
    Calls Try.prog 18 #[.int .i64 a, .int .i64 n, .int .i64 m] w fun e w' => e = .returned (.bool true) ∧ Grown w w' := by
  obtain ⟨h0, h1, h2⟩ := h
  have hs := Lib.hid (show sumok a n from ⟨h0, h1, Int.le_trans h2 hm.2⟩)
  clear hm
  go_enter Try.func18, Try.ntmps18
  go_wp2_with (fail)
  refine (add_ok a n hs.out _).mono ?_
  rintro e w' ⟨rfl, hg⟩
  go_wp2
  go_ret
  exact ⟨rfl, hg⟩

set_option maxHeartbeats 400000 in
theorem fits_no (a n m : Int) (ha : I64 a) (hn : I64 n) (h : ¬ fit a n m) (w : World) :
    Calls Try.prog 18 #[.int .i64 a, .int .i64 n, .int .i64 m] w fun e w' => e = .returned (.bool false) ∧ Grown w w' := by
  by_cases hs : sumok a n
  · have k : m < a + n := by unfold fit at h; unfold sumok at hs; omega
    have hd : decide (a + n ≤ m) = false := decide_eq_false (by omega)
    have hs := Lib.hid hs
    clear h ha hn
    go_enter Try.func18, Try.ntmps18
    go_wp2_with (fail)
    refine (add_ok a n hs.out _).mono ?_
    rintro e w' ⟨rfl, hg⟩
    go_wp2
    go_ret
    exact ⟨rfl, hg⟩
  · have hs := Lib.hid hs
    have ha := Lib.hid ha
    have hn := Lib.hid hn
    clear h
    go_enter Try.func18, Try.ntmps18
    go_wp2_with (fail)
    refine (add_no a n ha.out hn.out hs.out _).mono ?_
    rintro e w' ⟨rfl, hg⟩
    go_wp2
    go_ret
    exact ⟨rfl, hg⟩

/-- Is it a place? -/
def spot (s p : Int) : Prop := (s = 0 ∨ s = 1) ∧ 0 ≤ p ∧ p < 4294967296
instance decSpot (s p : Int) : Decidable (spot s p) := by unfold spot; infer_instance
/-- A place's address. -/
def adr (s p : Int) : Int := (s + 1) * 4294967296 + p

set_option maxHeartbeats 400000 in
theorem addr_ok (s p : Int) (h : spot s p) (w : World) :
    Calls Try.prog 20 #[.int .i64 s, .int .i64 p] w fun e w' => e = .returned (.int .u64 (adr s p)) ∧ w = w' := by
  obtain ⟨h0, h1, h2⟩ := h
  rcases h0 with rfl | rfl
  · go_enter Try.func20, Try.ntmps20
    go_wp2
    go_ret
    exact ⟨ret_int (by unfold adr; omega), rfl⟩
  · go_enter Try.func20, Try.ntmps20
    go_wp2
    go_ret
    exact ⟨ret_int (by unfold adr; omega), rfl⟩

set_option maxHeartbeats 400000 in
theorem addr_no (s p : Int) (h : ¬ spot s p) (w : World) :
    Calls Try.prog 20 #[.int .i64 s, .int .i64 p] w fun e w' => e = .returned (.int .u64 0) ∧ w = w' := by
  unfold spot at h
  by_cases n0 : s < 0
  · clear h
    go_enter Try.func20, Try.ntmps20
    go_wp2
    go_ret
    exact ⟨rfl, rfl⟩
  by_cases n1 : 2 ≤ s
  · clear h
    go_enter Try.func20, Try.ntmps20
    go_wp2
    go_ret
    exact ⟨rfl, rfl⟩
  have m1 : s < 2 := by omega
  by_cases n2 : p < 0
  · clear h
    go_enter Try.func20, Try.ntmps20
    go_wp2
    go_ret
    exact ⟨rfl, rfl⟩
  have n3 : 4294967295 < p := by omega
  clear h
  go_enter Try.func20, Try.ntmps20
  go_wp2
  go_ret
  exact ⟨rfl, rfl⟩

set_option maxHeartbeats 400000 in
theorem other_0 (w : World) :
    Calls Try.prog 17 #[.int .i64 0] w fun e w' => e = .returned (.int .i64 1) ∧ w = w' := by
  go_enter Try.func17, Try.ntmps17
  go_wp2
  go_ret
  exact ⟨rfl, rfl⟩
set_option maxHeartbeats 400000 in
theorem other_1 (s : Int) (h : s ≠ 0) (w : World) :
    Calls Try.prog 17 #[.int .i64 s] w fun e w' => e = .returned (.int .i64 0) ∧ w = w' := by
  go_enter Try.func17, Try.ntmps17
  go_wp2
  go_ret
  exact ⟨rfl, rfl⟩


theorem w64_low (a : Int) (h0 : 0 ≤ a) (h1 : a ≤ 18446744073709551615) : wrap64 (bits BinOp.and IntKind.u64 a 4294967295) = a % 4294967296 := by
  rw [and_low32 a h0 (by omega)]; unfold wrap64; omega

set_option maxHeartbeats 400000 in
theorem apart_any (a : Int) (h0 : 0 ≤ a) (h1 : a ≤ 18446744073709551615) (w : World) :
    Calls Try.prog 23 #[.int .u64 a] w fun e w' => e = .returned (.agg #[.int .i64 (a / 4294967296 - 1), .int .i64 (a % 4294967296)]) ∧ Grown w w' := by
  have hm := Lib.hid (w64_low a h0 h1)
  go_enter Try.func23, Try.ntmps23
  go_wp2
  rw [hm.out]
  refine bodyPost_ret (results_cell_row rfl _ _ w.heap.size 47 _ _ _ rfl (heap_alloc_new _ _) Try.underlying47 rfl (by kernel_rfl)) rfl ?_
  exact ⟨rfl, (Grown.refl _).alloc _ _⟩

theorem fieldsOf_of {P : Program} {t : TypeId} {fs : Array Field} (h : P.underlying t = some (.struct fs)) : P.fieldsOf t = fs := by unfold Program.fieldsOf; rw [h]

theorem eq_place (s p t q : Int) (w : World) : (binOp .eql 47 (.agg #[.int .i64 s, .int .i64 p]) (.agg #[.int .i64 t, .int .i64 q])).run Try.prog w = .ok (.bool (s == t && p == q)) w := by
  rw [run_eql_struct, run_equalIn_agg _ _ _ _ _ (by rw [fieldsOf_of Try.underlying47]; exact Try.underlying47) (by kernel_rfl), fieldsOf_of Try.underlying47]
  simp [Op.eqFields, go_sem]
  by_cases h : s = t <;> by_cases k : p = q <;> simp [h, k]

set_option maxHeartbeats 400000 in
theorem where_0 (a p : Int) (h0 : 0 ≤ a) (h1 : a ≤ 18446744073709551615) (hq : a / 4294967296 - 1 = 0) (hp : a % 4294967296 = p) (w : World) :
    Calls Try.prog 15 #[.int .u64 a] w fun e w' => e = .returned (.tuple #[.int .i64 0, .int .i64 p, .bool true]) ∧ Grown w w' := by
  have ha := Lib.hid (apart_any a h0 h1)
  rw [hq, hp] at ha
  clear hq hp h0 h1
  have he : ∀ w, (binOp .eql 47 (.agg #[.int .i64 0, .int .i64 p]) (.agg #[.int .i64 0, .int .i64 p])).run Try.prog w = .ok (.bool true) w := fun w => by rw [eq_place]; simp
  go_enter Try.func15, Try.ntmps15
  go_wp2_with (fail)
  refine (ha.out _).mono ?_
  rintro e w' ⟨rfl, hg⟩
  go_wp2
  refine wp_loop_rounds 1 ?_
  rw [rounds_succ]
  go_wp2
  go_region
  go_wp2
  go_ret3
  exact ⟨rfl, (hg.alloc _ _).drew⟩

set_option maxHeartbeats 800000 in
theorem where_1 (a p : Int) (h0 : 0 ≤ a) (h1 : a ≤ 18446744073709551615) (hq : a / 4294967296 - 1 = 1) (hp : a % 4294967296 = p) (w : World) :
    Calls Try.prog 15 #[.int .u64 a] w fun e w' => e = .returned (.tuple #[.int .i64 1, .int .i64 p, .bool true]) ∧ Grown w w' := by
  have ha := Lib.hid (apart_any a h0 h1)
  rw [hq, hp] at ha
  clear hq hp h0 h1
  have he0 : ∀ w, (binOp .eql 47 (.agg #[.int .i64 1, .int .i64 p]) (.agg #[.int .i64 0, .int .i64 p])).run Try.prog w = .ok (.bool false) w := fun w => by rw [eq_place]; simp
  have he : ∀ w, (binOp .eql 47 (.agg #[.int .i64 1, .int .i64 p]) (.agg #[.int .i64 1, .int .i64 p])).run Try.prog w = .ok (.bool true) w := fun w => by rw [eq_place]; simp
  go_enter Try.func15, Try.ntmps15
  go_wp2_with (fail)
  refine (ha.out _).mono ?_
  rintro e w' ⟨rfl, hg⟩
  go_wp2
  refine wp_loop_rounds 2 ?_
  rw [rounds_succ]
  go_wp2
  rw [rounds_succ]
  go_wp2
  go_region
  go_wp2
  go_ret3
  exact ⟨rfl, (hg.alloc _ _).drew⟩

set_option maxHeartbeats 800000 in
theorem where_no (a q p : Int) (h0 : 0 ≤ a) (h1 : a ≤ 18446744073709551615) (hq : a / 4294967296 - 1 = q) (hp : a % 4294967296 = p) (q0 : q ≠ 0) (q1 : q ≠ 1) (w : World) :
    Calls Try.prog 15 #[.int .u64 a] w fun e w' => e = .returned (.tuple #[.int .i64 0, .int .i64 0, .bool false]) ∧ Grown w w' := by
  have ha := Lib.hid (apart_any a h0 h1)
  rw [hq, hp] at ha
  clear hq hp h0 h1
  have he0 : ∀ w, (binOp .eql 47 (.agg #[.int .i64 q, .int .i64 p]) (.agg #[.int .i64 0, .int .i64 p])).run Try.prog w = .ok (.bool false) w := fun w => by rw [eq_place]; simp [q0]
  have he : ∀ w, (binOp .eql 47 (.agg #[.int .i64 q, .int .i64 p]) (.agg #[.int .i64 1, .int .i64 p])).run Try.prog w = .ok (.bool false) w := fun w => by rw [eq_place]; simp [q1]
  clear q0 q1
  go_enter Try.func15, Try.ntmps15
  go_wp2_with (fail)
  refine (ha.out _).mono ?_
  rintro e w' ⟨rfl, hg⟩
  go_wp2
  refine wp_loop_rounds 3 ?_
  rw [rounds_succ]
  go_wp2
  rw [rounds_succ]
  go_wp2
  rw [rounds_succ]
  go_wp2
  go_ret3
  exact ⟨rfl, hg.alloc _ _⟩

/-! ### The same, told by functions -/
def addv (a b : Int) : Int := if sumok a b then a + b else 0
def addb (a b : Int) : Bool := decide (sumok a b)
theorem add_any (a b : Int) (ha : I64 a) (hb : I64 b) (w : World) :
    Calls Try.prog 11 #[.int .i64 a, .int .i64 b] w fun e w' => e = .returned (.tuple #[.int .i64 (addv a b), .bool (addb a b)]) ∧ Grown w w' := by
  by_cases h : sumok a b
  · rw [show addv a b = a + b from if_pos h, show addb a b = true from decide_eq_true h]; exact add_ok a b h w
  · rw [show addv a b = 0 from if_neg h, show addb a b = false from decide_eq_false h]; exact add_no a b ha hb h w

/-- How many words, and which error. -/
def objw (n : Int) : Int := if n < 0 then 0 else if 16 < n then 0 else n + 2
def obje (n : Int) : Int := if n < 0 then 1 else if 16 < n then 3 else 0
theorem obj_any (n : Int) (w : World) :
    Calls Try.prog 13 #[.int .i64 n] w fun e w' => e = .returned (.tuple #[.int .i64 (objw n), .int .i64 (obje n)]) ∧ w = w' := by
  by_cases h : n < 0
  · rw [show objw n = 0 from if_pos h, show obje n = 1 from if_pos h]; exact obj_arg n h w
  by_cases k : 16 < n
  · rw [show objw n = 0 from (if_neg h).trans (if_pos k), show obje n = 3 from (if_neg h).trans (if_pos k)]; exact obj_big n k w
  · rw [show objw n = n + 2 from (if_neg h).trans (if_neg k), show obje n = 0 from (if_neg h).trans (if_neg k)]; exact obj_ok n (by omega) (by omega) w

def fitb (a n m : Int) : Bool := decide (fit a n m)
theorem fits_any (a n m : Int) (ha : I64 a) (hn : I64 n) (hm : I64 m) (w : World) :
    Calls Try.prog 18 #[.int .i64 a, .int .i64 n, .int .i64 m] w fun e w' => e = .returned (.bool (fitb a n m)) ∧ Grown w w' := by
  by_cases h : fit a n m
  · rw [show fitb a n m = true from decide_eq_true h]; exact fits_yes a n m hm h w
  · rw [show fitb a n m = false from decide_eq_false h]; exact fits_no a n m ha hn h w

def adrv (s p : Int) : Int := if spot s p then adr s p else 0
theorem addr_any (s p : Int) (w : World) :
    Calls Try.prog 20 #[.int .i64 s, .int .i64 p] w fun e w' => e = .returned (.int .u64 (adrv s p)) ∧ w = w' := by
  by_cases h : spot s p
  · rw [show adrv s p = adr s p from if_pos h]; exact addr_ok s p h w
  · rw [show adrv s p = 0 from if_neg h]; exact addr_no s p h w

/-- Which space, which place, and whether. -/
def whs (a : Int) : Int := if a / 4294967296 - 1 = 1 then 1 else 0
def whp (a : Int) : Int := if a / 4294967296 - 1 = 0 ∨ a / 4294967296 - 1 = 1 then a % 4294967296 else 0
def whb (a : Int) : Bool := decide (a / 4294967296 - 1 = 0 ∨ a / 4294967296 - 1 = 1)
theorem where_any (a : Int) (h0 : 0 ≤ a) (h1 : a ≤ 18446744073709551615) (w : World) :
    Calls Try.prog 15 #[.int .u64 a] w fun e w' => e = .returned (.tuple #[.int .i64 (whs a), .int .i64 (whp a), .bool (whb a)]) ∧ Grown w w' := by
  by_cases h : a / 4294967296 - 1 = 0
  · rw [show whs a = 0 from if_neg (by omega), show whp a = a % 4294967296 from if_pos (.inl h), show whb a = true from decide_eq_true (.inl h)]
    exact where_0 a _ h0 h1 h rfl w
  by_cases k : a / 4294967296 - 1 = 1
  · rw [show whs a = 1 from if_pos k, show whp a = a % 4294967296 from if_pos (.inr k), show whb a = true from decide_eq_true (.inr k)]
    exact where_1 a _ h0 h1 k rfl w
  · rw [show whs a = 0 from if_neg k, show whp a = 0 from if_neg (by omega), show whb a = false from decide_eq_false (by omega)]
    exact where_no a _ _ h0 h1 rfl rfl h k w

set_option maxHeartbeats 400000 in
theorem shown_any (w : World) : Calls Try.prog 10 #[] w fun e w' => e = .returned (.bool true) ∧ w = w' := by
  have hs := Lib.hid (show spot 0 5 from ⟨.inl rfl, by decide, by decide⟩)
  have ha := Lib.hid (fun w => addr_ok 0 5 hs.out w)
  rw [show adr 0 5 = 4294967301 by decide] at ha
  clear hs
  go_enter Try.func10, Try.ntmps10
  go_wp2_with (fail)
  refine (obj_ok 3 (by decide) (by decide) _).mono ?_
  rintro e w' ⟨rfl, rfl⟩
  go_wp2_with (fail)
  refine (ha.out _).mono ?_
  rintro e w' ⟨rfl, rfl⟩
  go_wp2
  go_ret
  exact ⟨rfl, rfl⟩

/-! ### The document's answers -/
set_option maxHeartbeats 400000 in
theorem radd (a b : Int) (ha : I64 a) (hb : I64 b) (w : World) :
    Calls Try.prog 12 #[.int .i64 a, .int .i64 b] w fun e w' => e = .returned (.tuple #[.int .i64 (addv a b), .bool (addb a b)]) ∧ w = w' := by
  obtain ⟨a0, a1⟩ := ha
  obtain ⟨b0, b1⟩ := hb
  by_cases h : sumok a b
  · rw [show addv a b = a + b from if_pos h, show addb a b = true from decide_eq_true h]
    obtain ⟨h0, h1, h2⟩ := h
    have n2 : ¬ (9223372036854775807 - b < a) := by omega
    go_enter Try.func12, Try.ntmps12
    go_wp2
    go_ret2
    exact ⟨rfl, rfl⟩
  · rw [show addv a b = 0 from if_neg h, show addb a b = false from decide_eq_false h]
    unfold sumok at h
    by_cases n0 : a < 0
    · clear h
      go_enter Try.func12, Try.ntmps12
      go_wp2
      go_ret2
      exact ⟨rfl, rfl⟩
    by_cases n1 : b < 0
    · clear h
      go_enter Try.func12, Try.ntmps12
      go_wp2
      go_ret2
      exact ⟨rfl, rfl⟩
    have n2 : 9223372036854775807 - b < a := by omega
    have m1 : 0 ≤ b := by omega
    clear h
    go_enter Try.func12, Try.ntmps12
    go_wp2
    go_ret2
    exact ⟨rfl, rfl⟩

set_option maxHeartbeats 400000 in
theorem robj (n : Int) (w : World) :
    Calls Try.prog 14 #[.int .i64 n] w fun e w' => e = .returned (.tuple #[.int .i64 (objw n), .int .i64 (obje n)]) ∧ w = w' := by
  by_cases h : n < 0
  · rw [show objw n = 0 from if_pos h, show obje n = 1 from if_pos h]
    go_enter Try.func14, Try.ntmps14
    go_wp2
    go_ret2
    exact ⟨rfl, rfl⟩
  by_cases k : 16 < n
  · rw [show objw n = 0 from (if_neg h).trans (if_pos k), show obje n = 3 from (if_neg h).trans (if_pos k)]
    go_enter Try.func14, Try.ntmps14
    go_wp2
    go_ret2
    exact ⟨rfl, rfl⟩
  · rw [show objw n = n + 2 from (if_neg h).trans (if_neg k), show obje n = 0 from (if_neg h).trans (if_neg k)]
    have h0 : 0 ≤ n := by omega
    have h1 : n ≤ 16 := by omega
    go_enter Try.func14, Try.ntmps14
    go_wp2
    go_ret2
    exact ⟨rfl, rfl⟩

set_option maxHeartbeats 400000 in
theorem rfits (a n m : Int) (ha : I64 a) (hn : I64 n) (hm : I64 m) (w : World) :
    Calls Try.prog 19 #[.int .i64 a, .int .i64 n, .int .i64 m] w fun e w' => e = .returned (.bool (fitb a n m)) ∧ w = w' := by
  obtain ⟨a0, a1⟩ := ha
  obtain ⟨n0, n1⟩ := hn
  obtain ⟨m0, m1⟩ := hm
  by_cases h : fit a n m
  · rw [show fitb a n m = true from decide_eq_true h]
    obtain ⟨h0, h1, h2⟩ := h
    have k0 : a ≤ m := by omega
    have k1 : n ≤ m - a := by omega
    go_enter Try.func19, Try.ntmps19
    go_wp2
    go_ret
    exact ⟨rfl, rfl⟩
  · rw [show fitb a n m = false from decide_eq_false h]
    unfold fit at h
    by_cases h0 : a < 0
    · clear h
      go_enter Try.func19, Try.ntmps19
      go_wp2
      go_ret
      exact ⟨rfl, rfl⟩
    by_cases h1 : n < 0
    · clear h
      go_enter Try.func19, Try.ntmps19
      go_wp2
      go_ret
      exact ⟨rfl, rfl⟩
    by_cases h2 : m < a
    · clear h
      go_enter Try.func19, Try.ntmps19
      go_wp2
      go_ret
      exact ⟨rfl, rfl⟩
    have k1 : decide (n ≤ m - a) = false := decide_eq_false (by omega)
    have k2 : 0 ≤ a := by omega
    have k3 : 0 ≤ n := by omega
    have k4 : a ≤ m := by omega
    clear h
    go_enter Try.func19, Try.ntmps19
    go_wp2
    go_ret
    exact ⟨rfl, rfl⟩

set_option maxHeartbeats 400000 in
theorem raddr (s p : Int) (w : World) :
    Calls Try.prog 21 #[.int .i64 s, .int .i64 p] w fun e w' => e = .returned (.int .u64 (adrv s p)) ∧ w = w' := by
  by_cases h : spot s p
  · rw [show adrv s p = adr s p from if_pos h]
    obtain ⟨h0, h1, h2⟩ := h
    rcases h0 with rfl | rfl
    · go_enter Try.func21, Try.ntmps21
      go_wp2
      go_ret
      exact ⟨ret_int (by unfold adr; omega), rfl⟩
    · go_enter Try.func21, Try.ntmps21
      go_wp2
      go_ret
      exact ⟨ret_int (by unfold adr; omega), rfl⟩
  · rw [show adrv s p = 0 from if_neg h]
    unfold spot at h
    by_cases n0 : s ≠ 0 ∧ s ≠ 1
    · obtain ⟨n0, n1⟩ := n0
      clear h
      go_enter Try.func21, Try.ntmps21
      go_wp2
      go_ret
      exact ⟨rfl, rfl⟩
    have hs : s = 0 ∨ s = 1 := by omega
    by_cases n2 : p < 0
    · clear h n0
      rcases hs with rfl | rfl
      · go_enter Try.func21, Try.ntmps21
        go_wp2
        go_ret
        exact ⟨rfl, rfl⟩
      · go_enter Try.func21, Try.ntmps21
        go_wp2
        go_ret
        exact ⟨rfl, rfl⟩
    have n3 : 4294967296 ≤ p := by omega
    clear h n0
    rcases hs with rfl | rfl
    · go_enter Try.func21, Try.ntmps21
      go_wp2
      go_ret
      exact ⟨rfl, rfl⟩
    · go_enter Try.func21, Try.ntmps21
      go_wp2
      go_ret
      exact ⟨rfl, rfl⟩

set_option maxHeartbeats 400000 in
theorem rwhere (a : Int) (h0 : 0 ≤ a) (h1 : a ≤ 18446744073709551615) (w : World) :
    Calls Try.prog 16 #[.int .u64 a] w fun e w' => e = .returned (.tuple #[.int .i64 (whs a), .int .i64 (whp a), .bool (whb a)]) ∧ w = w' := by
  by_cases h : a / 4294967296 - 1 = 0
  · rw [show whs a = 0 from if_neg (by omega), show whp a = a % 4294967296 from if_pos (.inl h), show whb a = true from decide_eq_true (.inl h)]
    have h : a / 4294967296 = 1 := by omega
    go_enter Try.func16, Try.ntmps16
    go_wp2
    go_ret3
    exact ⟨rfl, rfl⟩
  by_cases k : a / 4294967296 - 1 = 1
  · rw [show whs a = 1 from if_pos k, show whp a = a % 4294967296 from if_pos (.inr k), show whb a = true from decide_eq_true (.inr k)]
    have k : a / 4294967296 = 2 := by omega
    go_enter Try.func16, Try.ntmps16
    go_wp2
    go_ret3
    exact ⟨rfl, rfl⟩
  · rw [show whs a = 0 from if_neg k, show whp a = 0 from if_neg (by omega), show whb a = false from decide_eq_false (by omega)]
    have h : (a / 4294967296 != 1) = true := bne_iff_ne.mpr (by omega)
    have k : (a / 4294967296 != 2) = true := bne_iff_ne.mpr (by omega)
    go_enter Try.func16, Try.ntmps16
    go_wp2
    go_ret3
    exact ⟨rfl, rfl⟩

/-! ### For the statements -/
theorem nn_of_wf {a : Int} (h : (Lit.int .u64 a).wf = true) : 0 ≤ a := by
  have e : IntKind.u64.min = 0 := by decide
  simp [Lit.wf, e] at h
  omega
theorem hi_of_wf {a : Int} (h : (Lit.int .u64 a).wf = true) : a ≤ 18446744073709551615 := by
  have e : IntKind.u64.max = 18446744073709551615 := by decide
  simp [Lit.wf, e] at h
  omega
theorem i64_of_wf {a : Int} (h : (Lit.int .i64 a).wf = true) : I64 a := by
  have e : IntKind.i64.min = -9223372036854775808 := by decide
  have e2 : IntKind.i64.max = 9223372036854775807 := by decide
  simp [Lit.wf, e, e2] at h
  unfold I64
  omega

theorem add_as (a b v : Int) (h : sumok a b) (hv : v = a + b) (w : World) :
    Calls Try.prog 11 #[.int .i64 a, .int .i64 b] w fun e w' => e = .returned (.tuple #[.int .i64 v, .bool true]) ∧ Grown w w' := by
  rw [hv]; exact add_ok a b h w

theorem addr_is (s p v : Int) (h : spot s p) (hv : v = (s + 1) * 4294967296 + p) (w : World) :
    Calls Try.prog 20 #[.int .i64 s, .int .i64 p] w fun e w' => e = .returned (.int .u64 v) ∧ w = w' := by
  rw [show v = adr s p from hv]; exact addr_ok s p h w

theorem adr_ne {s p : Int} (h : spot s p) : (adr s p == 0) = false := by
  obtain ⟨h0, h1, h2⟩ := h
  refine beq_eq_false_iff_ne.mpr ?_
  unfold adr; omega
theorem adr_inj {s p t q : Int} (h : spot s p) (k : spot t q) (e : adr s p = adr t q) : s = t ∧ p = q := by
  obtain ⟨h0, h1, h2⟩ := h
  obtain ⟨k0, k1, k2⟩ := k
  unfold adr at e; omega

/-- Where an address leads; the place that is told has that address. -/
theorem where_told (a : Int) (h0 : 0 ≤ a) (h1 : a ≤ 18446744073709551615) : ∃ (u v : Int) (b : Bool),
    (∀ w, Calls Try.prog 15 #[.int .u64 a] w fun e w' => e = .returned (.tuple #[.int .i64 u, .int .i64 v, .bool b]) ∧ Grown w w') ∧
    (b = true → ∀ w, Calls Try.prog 20 #[.int .i64 u, .int .i64 v] w fun e w' => e = .returned (.int .u64 a) ∧ w = w') := by
  by_cases h : a / 4294967296 - 1 = 0
  · exact ⟨0, a % 4294967296, true, fun w => where_0 a _ h0 h1 h rfl w, fun _ w => addr_is 0 _ a ⟨.inl rfl, by omega, by omega⟩ (by omega) w⟩
  by_cases k : a / 4294967296 - 1 = 1
  · exact ⟨1, a % 4294967296, true, fun w => where_1 a _ h0 h1 k rfl w, fun _ w => addr_is 1 _ a ⟨.inr rfl, by omega, by omega⟩ (by omega) w⟩
  · exact ⟨0, 0, false, fun w => where_no a _ _ h0 h1 rfl rfl h k w, fun q => by cases q⟩
end Go.Proofs.Ytnfanedkbfopkaa
