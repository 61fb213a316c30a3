/- Right heads: contract. -/
import Derived.Test.YtddoljfkbkbfjaaGreatAa
import Derived.Deep.QuietTactic
import Derived.BigQuiet
/-! Of stage 5 -/
namespace Go.Proofs.YtddoljfkbkbfjaaGreat
open Go.ChangeShapes Go.WideShapes Go.ChangeAt Go.RowKit
set_option linter.unusedVariables false

/-- A head as a value. -/
abbrev hdv (t l m : Int) : Value := .agg #[.int .i64 t, .int .i64 l, .int .u64 m]

/-- The document's power of two. -/
theorem pow_step (k : Nat) : ((2 : Int) ^ (k + 1)) = 2 ^ k + 2 ^ k := by rw [Int.pow_succ]; omega
theorem pow_le (k : Nat) (h : k ≤ 63) : (1 : Int) ≤ 2 ^ k ∧ (2 : Int) ^ k ≤ 9223372036854775808 := by
  have h1 : (2 : Nat) ^ k ≤ 2 ^ 63 := Nat.pow_le_pow_right (by decide) h
  have h2 : 1 ≤ (2 : Nat) ^ k := Nat.one_le_two_pow
  have h3 : ((2 : Int) ^ k) = (((2 : Nat) ^ k : Nat) : Int) := by simp
  rw [h3]
  have h4 : (2 : Nat) ^ 63 = 9223372036854775808 := by decide
  omega

set_option maxHeartbeats 400000 in
theorem right_ok_o (t l m : Int) (h0 : 1 ≤ t) (h1 : t ≤ 200) (h2 : 0 ≤ l) (h3 : l ≤ 16) (h4 : m / 2 ^ l.toNat = 0) (w : World) :
    Calls Tryz.prog 102 #[hdv t l m] w fun e w' => e = .returned (.int .i64 0) ∧ Up w w' := by
  have n1 : (m / 2 ^ l.toNat != 0) = false := by simp [h4]
  clear h4
  go_enter Tryz.func102, Tryz.ntmps102
  go_wp2
  go_ret
  exact ⟨rfl, ((Up.refl _).alloc _).alloc _⟩

set_option maxHeartbeats 400000 in
theorem right_ok_f (t l m : Int) (h0 : t = 255) (h2 : 0 ≤ l) (h3 : l ≤ 65535) (h4 : m = 0) (w : World) :
    Calls Tryz.prog 102 #[hdv t l m] w fun e w' => e = .returned (.int .i64 0) ∧ Up w w' := by
  subst h0 h4
  go_enter Tryz.func102, Tryz.ntmps102
  go_wp2
  go_ret
  exact ⟨rfl, ((Up.refl _).alloc _).alloc _⟩

set_option maxHeartbeats 400000 in
theorem right_lo (t l m : Int) (h0 : t < 1) (w : World) :
    Calls Tryz.prog 102 #[hdv t l m] w fun e w' => e = .returned (.int .i64 1) ∧ Up w w' := by
  have d0 : decide (1 ≤ t) = false := decide_eq_false (by omega)
  have d1 : decide (255 ≤ t) = false := decide_eq_false (by omega)
  go_enter Tryz.func102, Tryz.ntmps102
  go_wp2
  go_ret
  exact ⟨rfl, ((Up.refl _).alloc _).alloc _⟩

set_option maxHeartbeats 400000 in
theorem right_mid (t l m : Int) (h0 : 200 < t) (h1 : t < 255) (w : World) :
    Calls Tryz.prog 102 #[hdv t l m] w fun e w' => e = .returned (.int .i64 1) ∧ Up w w' := by
  have d0 : decide (t ≤ 200) = false := decide_eq_false (by omega)
  have d1 : decide (255 ≤ t) = false := decide_eq_false (by omega)
  have d2 : 1 ≤ t := by omega
  go_enter Tryz.func102, Tryz.ntmps102
  go_wp2
  go_ret
  exact ⟨rfl, ((Up.refl _).alloc _).alloc _⟩

set_option maxHeartbeats 400000 in
theorem right_hi (t l m : Int) (h0 : 255 < t) (w : World) :
    Calls Tryz.prog 102 #[hdv t l m] w fun e w' => e = .returned (.int .i64 1) ∧ Up w w' := by
  have d0 : decide (t ≤ 200) = false := decide_eq_false (by omega)
  have d1 : decide (t ≤ 255) = false := decide_eq_false (by omega)
  have d2 : 1 ≤ t := by omega
  have d3 : 255 ≤ t := by omega
  go_enter Tryz.func102, Tryz.ntmps102
  go_wp2
  go_ret
  exact ⟨rfl, ((Up.refl _).alloc _).alloc _⟩

set_option maxHeartbeats 400000 in
theorem right_neg_o (t l m : Int) (h0 : 1 ≤ t) (h1 : t ≤ 200) (h2 : l < 0) (w : World) :
    Calls Tryz.prog 102 #[hdv t l m] w fun e w' => e = .returned (.int .i64 1) ∧ Up w w' := by
  go_enter Tryz.func102, Tryz.ntmps102
  go_wp2
  go_ret
  exact ⟨rfl, ((Up.refl _).alloc _).alloc _⟩

set_option maxHeartbeats 400000 in
theorem right_neg_f (t l m : Int) (h0 : t = 255) (h2 : l < 0) (w : World) :
    Calls Tryz.prog 102 #[hdv t l m] w fun e w' => e = .returned (.int .i64 1) ∧ Up w w' := by
  subst h0
  go_enter Tryz.func102, Tryz.ntmps102
  go_wp2
  go_ret
  exact ⟨rfl, ((Up.refl _).alloc _).alloc _⟩

set_option maxHeartbeats 400000 in
theorem right_big_o (t l m : Int) (h0 : 1 ≤ t) (h1 : t ≤ 200) (h2 : 16 < l) (w : World) :
    Calls Tryz.prog 102 #[hdv t l m] w fun e w' => e = .returned (.int .i64 3) ∧ Up w w' := by
  have d0 : 0 ≤ l := by omega
  go_enter Tryz.func102, Tryz.ntmps102
  go_wp2
  go_ret
  exact ⟨rfl, ((Up.refl _).alloc _).alloc _⟩

set_option maxHeartbeats 400000 in
theorem right_big_f (t l m : Int) (h0 : t = 255) (h2 : 65535 < l) (w : World) :
    Calls Tryz.prog 102 #[hdv t l m] w fun e w' => e = .returned (.int .i64 3) ∧ Up w w' := by
  subst h0
  have d0 : 0 ≤ l := by omega
  go_enter Tryz.func102, Tryz.ntmps102
  go_wp2
  go_ret
  exact ⟨rfl, ((Up.refl _).alloc _).alloc _⟩

set_option maxHeartbeats 400000 in
theorem right_kind_o (t l m : Int) (h0 : 1 ≤ t) (h1 : t ≤ 200) (h2 : 0 ≤ l) (h3 : l ≤ 16) (h4 : ¬ m / 2 ^ l.toNat = 0) (w : World) :
    Calls Tryz.prog 102 #[hdv t l m] w fun e w' => e = .returned (.int .i64 8) ∧ Up w w' := by
  have n1 : (m / 2 ^ l.toNat != 0) = true := by simp [h4]
  clear h4
  go_enter Tryz.func102, Tryz.ntmps102
  go_wp2
  go_ret
  exact ⟨rfl, ((Up.refl _).alloc _).alloc _⟩

set_option maxHeartbeats 400000 in
theorem right_kind_f (t l m : Int) (h0 : t = 255) (h2 : 0 ≤ l) (h3 : l ≤ 65535) (h4 : ¬ m = 0) (w : World) :
    Calls Tryz.prog 102 #[hdv t l m] w fun e w' => e = .returned (.int .i64 8) ∧ Up w w' := by
  subst h0
  have n1 : (m != 0) = true := by simp [h4]
  clear h4
  go_enter Tryz.func102, Tryz.ntmps102
  go_wp2
  go_ret
  exact ⟨rfl, ((Up.refl _).alloc _).alloc _⟩

/-- What is wrong with a head: as the document says. -/
def rte (t l m : Int) : Int :=
  if t < 1 ∨ (200 < t ∧ t ≠ 255) ∨ l < 0 then 1
  else if (t ≠ 255 ∧ 16 < l) ∨ 65535 < l then 3
  else if (t ≠ 255 ∧ m / 2 ^ l.toNat ≠ 0) ∨ (t = 255 ∧ m ≠ 0) then 8 else 0

theorem rte_1 {t l m : Int} (h : t < 1 ∨ (200 < t ∧ t ≠ 255) ∨ l < 0) : rte t l m = 1 := by unfold rte; rw [if_pos h]
theorem rte_3 {t l m : Int} (h : ¬ (t < 1 ∨ (200 < t ∧ t ≠ 255) ∨ l < 0)) (k : (t ≠ 255 ∧ 16 < l) ∨ 65535 < l) : rte t l m = 3 := by unfold rte; rw [if_neg h, if_pos k]
theorem rte_8 {t l m : Int} (h : ¬ (t < 1 ∨ (200 < t ∧ t ≠ 255) ∨ l < 0)) (k : ¬ ((t ≠ 255 ∧ 16 < l) ∨ 65535 < l)) (j : (t ≠ 255 ∧ m / 2 ^ l.toNat ≠ 0) ∨ (t = 255 ∧ m ≠ 0)) : rte t l m = 8 := by unfold rte; rw [if_neg h, if_neg k, if_pos j]
theorem rte_0 {t l m : Int} (h : ¬ (t < 1 ∨ (200 < t ∧ t ≠ 255) ∨ l < 0)) (k : ¬ ((t ≠ 255 ∧ 16 < l) ∨ 65535 < l)) (j : ¬ ((t ≠ 255 ∧ m / 2 ^ l.toNat ≠ 0) ∨ (t = 255 ∧ m ≠ 0))) : rte t l m = 0 := by unfold rte; rw [if_neg h, if_neg k, if_neg j]

theorem right_any (t l m : Int) (w : World) :
    Calls Tryz.prog 102 #[hdv t l m] w fun e w' => e = .returned (.int .i64 (rte t l m)) ∧ Up w w' := by
  by_cases h : t < 1 ∨ (200 < t ∧ t ≠ 255) ∨ l < 0
  · rw [rte_1 h]
    by_cases c0 : t < 1
    · exact right_lo t l m c0 w
    by_cases c1 : 255 < t
    · exact right_hi t l m c1 w
    by_cases c2 : t = 255
    · exact right_neg_f t l m c2 (by omega) w
    by_cases c3 : 200 < t
    · exact right_mid t l m c3 (by omega) w
    · exact right_neg_o t l m (by omega) (by omega) (by omega) w
  by_cases k : (t ≠ 255 ∧ 16 < l) ∨ 65535 < l
  · rw [rte_3 h k]
    by_cases c2 : t = 255
    · exact right_big_f t l m c2 (by omega) w
    · exact right_big_o t l m (by omega) (by omega) (by omega) w
  by_cases c2 : t = 255
  · by_cases c4 : m = 0
    · rw [rte_0 h k (fun q => q.elim (fun q => q.1 c2) (fun q => q.2 c4))]
      exact right_ok_f t l m c2 (by omega) (by omega) c4 w
    · rw [rte_8 h k (.inr ⟨c2, c4⟩)]
      exact right_kind_f t l m c2 (by omega) (by omega) c4 w
  · by_cases c4 : m / 2 ^ l.toNat = 0
    · rw [rte_0 h k (fun q => q.elim (fun q => q.2 c4) (fun q => c2 q.1))]
      exact right_ok_o t l m (by omega) (by omega) (by omega) (by omega) c4 w
    · rw [rte_8 h k (.inl ⟨c2, c4⟩)]
      exact right_kind_o t l m (by omega) (by omega) (by omega) (by omega) c4 w


end Go.Proofs.YtddoljfkbkbfjaaGreat
