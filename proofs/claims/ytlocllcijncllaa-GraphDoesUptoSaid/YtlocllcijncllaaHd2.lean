/- Whether a head is right, by the document's own answer (dovecoteref04.Right): contracts. -/
import Derived.Test.YtlocllcijncllaaHd1
import Derived.IntWalk
namespace Go.Proofs.Ytlocllcijncllaa
open Go.ChangeShapes Go.WideShapes Go.ChangeAt Go.RowKit
set_option linter.unusedVariables false

set_option maxHeartbeats 400000 in
theorem rpow (n : Nat) (hn : n ≤ 62) (w : World) :
    Calls Try.prog 51 #[.int .i64 (n : Int)] w fun e w' => e = .returned (.int .u64 (2 ^ n)) ∧ w = w' := by
  go_enter Try.func51, Try.ntmps51
  go_wp2
  go_loop [3, 4] (fun v i => ∃ k : Nat, k ≤ n ∧ i = .int .i64 k ∧ v = .int .u64 (2 ^ k)) (fun _ i => n - (intOf i).toNat)
  case atStart => exact ⟨0, Nat.zero_le _, rfl, rfl⟩
  case round =>
    obtain ⟨k, hk, rfl, rfl⟩ := hrel
    obtain ⟨p1, p2⟩ := pow_le k (by omega)
    by_cases hlt : k < n
    · have hs := Lib.hid (pow_step k)
      have p3 := (pow_le (k + 1) (by omega)).2
      rw [hs.out] at p3
      go_wp2
      go_round
      case rel => exact ⟨k + 1, by omega, by go_num, by rw [hs.out]⟩
      case measure => simp [intOf]; omega
    · obtain rfl : k = n := by omega
      go_wp2
      go_ret
      exact ⟨rfl, rfl⟩
theorem quiet_same {P : Program} {f : FuncId} {args : Array Value} {w : World} {n : Nat} {v : Value}
    (h : Calls P f args (w.drewN n) fun e w' => e = .returned v ∧ w.drewN n = w') : Calls P f args (w.drewN n) fun e w'' => e = .returned v ∧ ∃ m, w'' = w.drewN m :=
  h.mono fun _ _ ⟨he, hm⟩ => ⟨he, n, hm.symm⟩
/-- The same, at a number that isn't told as a length. -/
theorem rpow_at (l : Int) (h0 : 0 ≤ l) (h1 : l ≤ 62) (w : World) :
    Calls Try.prog 51 #[.int .i64 l] w fun e w' => e = .returned (.int .u64 (2 ^ l.toNat)) ∧ w = w' := by
  have := rpow l.toNat (by omega) w
  rw [Int.toNat_of_nonneg h0] at this
  exact this
theorem div_pow_zero {m : Int} {k : Nat} (h : 0 ≤ m) : m / 2 ^ k = 0 ↔ m < 2 ^ k := by
  have hp : (0 : Int) < 2 ^ k := Int.pow_pos (by decide)
  constructor
  · intro e
    have := Int.lt_ediv_add_one_mul_self m hp
    rw [e] at this
    omega
  · exact fun q => Int.ediv_eq_zero_of_lt h q

set_option maxHeartbeats 400000 in
theorem rright_ok_o (t l m : Int) (hm : 0 ≤ m) (h0 : 1 ≤ t) (h1 : t ≤ 200) (h2 : 0 ≤ l) (h3 : l ≤ 16) (h4 : m / 2 ^ l.toNat = 0) (w : World) :
    Calls Try.prog 26 #[hdv t l m] w fun e w' => e = .returned (.int .i64 0) ∧ Up w w' := by
  have n1 : decide (2 ^ l.toNat ≤ m) = false := decide_eq_false (by have := (div_pow_zero hm).1 h4; omega)
  clear h4
  have t0 : (t != 255) = true := by simp; omega
  have t1 : (t == 255) = false := by simp; omega
  go_enter Try.func26, Try.ntmps26
  go_wp2
  go_quiet ((go_at_call 51; exact quiet_same (rpow_at l h2 (by omega) _)))
  go_wp2
  go_ret
  exact ⟨rfl, ((Up.refl _).alloc _).drewN _⟩

set_option maxHeartbeats 400000 in
theorem rright_ok_f (t l m : Int) (hm : 0 ≤ m) (h0 : t = 255) (h2 : 0 ≤ l) (h3 : l ≤ 65535) (h4 : m = 0) (w : World) :
    Calls Try.prog 26 #[hdv t l m] w fun e w' => e = .returned (.int .i64 0) ∧ Up w w' := by
  subst h0 h4
  go_enter Try.func26, Try.ntmps26
  go_wp2
  go_ret
  exact ⟨rfl, (Up.refl _).alloc _⟩

set_option maxHeartbeats 400000 in
theorem rright_lo (t l m : Int) (hm : 0 ≤ m) (h0 : t < 1) (w : World) :
    Calls Try.prog 26 #[hdv t l m] w fun e w' => e = .returned (.int .i64 1) ∧ Up w w' := by
  have t0 : (t != 255) = true := by simp; omega
  go_enter Try.func26, Try.ntmps26
  go_wp2
  go_ret
  exact ⟨rfl, (Up.refl _).alloc _⟩

set_option maxHeartbeats 400000 in
theorem rright_mid (t l m : Int) (hm : 0 ≤ m) (h0 : 200 < t) (h1 : t < 255) (w : World) :
    Calls Try.prog 26 #[hdv t l m] w fun e w' => e = .returned (.int .i64 1) ∧ Up w w' := by
  have t0 : (t != 255) = true := by simp; omega
  have d1 : decide (t < 1) = false := decide_eq_false (by omega)
  have d2 : decide (200 < t) = true := decide_eq_true h0
  go_enter Try.func26, Try.ntmps26
  go_wp2
  go_ret
  exact ⟨rfl, (Up.refl _).alloc _⟩

set_option maxHeartbeats 400000 in
theorem rright_hi (t l m : Int) (hm : 0 ≤ m) (h0 : 255 < t) (w : World) :
    Calls Try.prog 26 #[hdv t l m] w fun e w' => e = .returned (.int .i64 1) ∧ Up w w' := by
  have t0 : (t != 255) = true := by simp; omega
  have d1 : decide (t < 1) = false := decide_eq_false (by omega)
  have d2 : decide (200 < t) = true := decide_eq_true (by omega)
  go_enter Try.func26, Try.ntmps26
  go_wp2
  go_ret
  exact ⟨rfl, (Up.refl _).alloc _⟩

set_option maxHeartbeats 400000 in
theorem rright_neg_o (t l m : Int) (hm : 0 ≤ m) (h0 : 1 ≤ t) (h1 : t ≤ 200) (h2 : l < 0) (w : World) :
    Calls Try.prog 26 #[hdv t l m] w fun e w' => e = .returned (.int .i64 1) ∧ Up w w' := by
  have t0 : (t != 255) = true := by simp; omega
  have t1 : (t == 255) = false := by simp; omega
  go_enter Try.func26, Try.ntmps26
  go_wp2
  go_ret
  exact ⟨rfl, (Up.refl _).alloc _⟩

set_option maxHeartbeats 400000 in
theorem rright_neg_f (t l m : Int) (hm : 0 ≤ m) (h0 : t = 255) (h2 : l < 0) (w : World) :
    Calls Try.prog 26 #[hdv t l m] w fun e w' => e = .returned (.int .i64 1) ∧ Up w w' := by
  subst h0
  go_enter Try.func26, Try.ntmps26
  go_wp2
  go_ret
  exact ⟨rfl, (Up.refl _).alloc _⟩

set_option maxHeartbeats 400000 in
theorem rright_big_o (t l m : Int) (hm : 0 ≤ m) (h0 : 1 ≤ t) (h1 : t ≤ 200) (h2 : 16 < l) (w : World) :
    Calls Try.prog 26 #[hdv t l m] w fun e w' => e = .returned (.int .i64 3) ∧ Up w w' := by
  have d0 : 0 ≤ l := by omega
  have t0 : (t != 255) = true := by simp; omega
  have t1 : (t == 255) = false := by simp; omega
  go_enter Try.func26, Try.ntmps26
  go_wp2
  go_ret
  exact ⟨rfl, (Up.refl _).alloc _⟩

set_option maxHeartbeats 400000 in
theorem rright_big_f (t l m : Int) (hm : 0 ≤ m) (h0 : t = 255) (h2 : 65535 < l) (w : World) :
    Calls Try.prog 26 #[hdv t l m] w fun e w' => e = .returned (.int .i64 3) ∧ Up w w' := by
  subst h0
  have d0 : 0 ≤ l := by omega
  go_enter Try.func26, Try.ntmps26
  go_wp2
  go_ret
  exact ⟨rfl, (Up.refl _).alloc _⟩

set_option maxHeartbeats 400000 in
theorem rright_kind_o (t l m : Int) (hm : 0 ≤ m) (h0 : 1 ≤ t) (h1 : t ≤ 200) (h2 : 0 ≤ l) (h3 : l ≤ 16) (h4 : ¬ m / 2 ^ l.toNat = 0) (w : World) :
    Calls Try.prog 26 #[hdv t l m] w fun e w' => e = .returned (.int .i64 8) ∧ Up w w' := by
  have n1 : decide (2 ^ l.toNat ≤ m) = true := decide_eq_true (by have := mt (div_pow_zero hm).2 h4; omega)
  clear h4
  have t0 : (t != 255) = true := by simp; omega
  have t1 : (t == 255) = false := by simp; omega
  go_enter Try.func26, Try.ntmps26
  go_wp2
  go_quiet ((go_at_call 51; exact quiet_same (rpow_at l h2 (by omega) _)))
  go_wp2
  go_ret
  exact ⟨rfl, ((Up.refl _).alloc _).drewN _⟩

set_option maxHeartbeats 400000 in
theorem rright_kind_f (t l m : Int) (hm : 0 ≤ m) (h0 : t = 255) (h2 : 0 ≤ l) (h3 : l ≤ 65535) (h4 : ¬ m = 0) (w : World) :
    Calls Try.prog 26 #[hdv t l m] w fun e w' => e = .returned (.int .i64 8) ∧ Up w w' := by
  subst h0
  have n1 : (m != 0) = true := by simp [h4]
  clear h4
  go_enter Try.func26, Try.ntmps26
  go_wp2
  go_ret
  exact ⟨rfl, (Up.refl _).alloc _⟩

theorem rright_any (t l m : Int) (hm : 0 ≤ m) (w : World) :
    Calls Try.prog 26 #[hdv t l m] w fun e w' => e = .returned (.int .i64 (rte t l m)) ∧ Up w w' := by
  by_cases h : t < 1 ∨ (200 < t ∧ t ≠ 255) ∨ l < 0
  · rw [rte_1 h]
    by_cases c0 : t < 1
    · exact rright_lo t l m hm c0 w
    by_cases c1 : 255 < t
    · exact rright_hi t l m hm c1 w
    by_cases c2 : t = 255
    · exact rright_neg_f t l m hm c2 (by omega) w
    by_cases c3 : 200 < t
    · exact rright_mid t l m hm c3 (by omega) w
    · exact rright_neg_o t l m hm (by omega) (by omega) (by omega) w
  by_cases k : (t ≠ 255 ∧ 16 < l) ∨ 65535 < l
  · rw [rte_3 h k]
    by_cases c2 : t = 255
    · exact rright_big_f t l m hm c2 (by omega) w
    · exact rright_big_o t l m hm (by omega) (by omega) (by omega) w
  by_cases c2 : t = 255
  · by_cases c4 : m = 0
    · rw [rte_0 h k (fun q => q.elim (fun q => q.1 c2) (fun q => q.2 c4))]
      exact rright_ok_f t l m hm c2 (by omega) (by omega) c4 w
    · rw [rte_8 h k (.inr ⟨c2, c4⟩)]
      exact rright_kind_f t l m hm c2 (by omega) (by omega) c4 w
  · by_cases c4 : m / 2 ^ l.toNat = 0
    · rw [rte_0 h k (fun q => q.elim (fun q => q.2 c4) (fun q => c2 q.1))]
      exact rright_ok_o t l m hm (by omega) (by omega) (by omega) (by omega) c4 w
    · rw [rte_8 h k (.inl ⟨c2, c4⟩)]
      exact rright_kind_o t l m hm (by omega) (by omega) (by omega) (by omega) c4 w

end Go.Proofs.Ytlocllcijncllaa
