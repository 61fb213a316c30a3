/- The document's own answer for package num (dovecoteref01) is the mathematics, too: contracts of its functions. -/
import Derived.Test.YtiihhgpmkodjmaaUse
namespace Go.Proofs.Ytiihhgpmkodjmaa
open Go.ChangeShapes Go.WideShapes Go.ChangeAt Go.RowKit
set_option linter.unusedVariables false

theorem tmod_nn (n : Int) (h : 0 ≤ n) : n.tmod 65536 = n % 65536 := Int.tmod_eq_emod_of_nonneg h
theorem tmod_bd (n : Int) : -65536 < n.tmod 65536 ∧ n.tmod 65536 < 65536 ∧ (n.tmod 65536) % 65536 = n % 65536 := by
  have h1 := Int.mul_tdiv_add_tmod n 65536
  have h2 := Int.tmod_lt_of_pos n (show (0 : Int) < 65536 by decide)
  have h3 := Int.lt_tmod_of_pos n (show (0 : Int) < 65536 by decide)
  omega

set_option maxHeartbeats 400000 in
theorem rpart (n : Int) (w : World) :
    Calls Try.prog 28 #[.int .i64 n] w fun e w' => e = .returned (.int .u64 (n % 65536)) ∧ w = w' := by
  obtain ⟨b1, b2, b3⟩ := tmod_bd n
  have H3 := Lib.hid b3
  clear b3
  by_cases h : n.tmod 65536 < 0
  · go_enter Try.func28, Try.ntmps28
    go_wp2
    go_ret
    exact ⟨ret_int (by have := H3.out; omega), rfl⟩
  · go_enter Try.func28, Try.ntmps28
    go_wp2
    go_ret
    exact ⟨ret_int (by have := H3.out; omega), rfl⟩

theorem pt_mod (n : Int) : pt (n % 65536) = pt n := by unfold pt; omega

set_option maxHeartbeats 400000 in
theorem rsign (n : Int) (h0 : 0 ≤ n) (h1 : n < 65536) (w : World) :
    Calls Try.prog 27 #[.int .u64 n] w fun e w' => e = .returned (.int .i64 (pt n)) ∧ w = w' := by
  by_cases h : 32768 ≤ n
  · go_enter Try.func27, Try.ntmps27
    go_wp2
    go_ret
    exact ⟨ret_int (by unfold pt; omega), rfl⟩
  · go_enter Try.func27, Try.ntmps27
    go_wp2
    go_ret
    exact ⟨ret_int (by unfold pt; omega), rfl⟩

set_option maxHeartbeats 400000 in
theorem rpack (x y : Int) (w : World) :
    Calls Try.prog 15 #[.int .i64 x, .int .i64 y] w fun e w' => e = .returned (.int .u64 (pk x y)) ∧ w = w' := by
  have b1 : 0 ≤ x % 65536 := by omega
  have b2 : x % 65536 < 65536 := by omega
  have b3 : 0 ≤ y % 65536 := by omega
  have b4 : y % 65536 < 65536 := by omega
  go_enter Try.func15, Try.ntmps15
  go_wp2_with (fail)
  refine (rpart x _).mono ?_
  rintro e w' ⟨rfl, rfl⟩
  go_wp2_with (fail)
  refine (rpart y _).mono ?_
  rintro e w' ⟨rfl, rfl⟩
  go_wp2
  go_ret
  exact ⟨ret_int (by unfold pk; omega), rfl⟩

theorem rpack_as (x y v : Int) (hv : pk x y = v) (w : World) :
    Calls Try.prog 15 #[.int .i64 x, .int .i64 y] w fun e w' => e = .returned (.int .u64 v) ∧ w = w' := by
  rw [← hv]; exact rpack x y w

set_option maxHeartbeats 400000 in
theorem rparts (a : Int) (h0 : 0 ≤ a) (k0 : a ≤ 18446744073709551615) (w : World) :
    Calls Try.prog 13 #[.int .u64 a] w fun e w' => e = .returned (.tuple #[.int .i64 (re a), .int .i64 (im a)]) ∧ w = w' := by
  have b1 : 0 ≤ a / 65536 := by omega
  go_enter Try.func13, Try.ntmps13
  go_wp2_with (fail)
  refine (rsign (a / 65536 % 65536) (by omega) (by omega) _).mono ?_
  rintro e w' ⟨rfl, rfl⟩
  go_wp2_with (fail)
  refine (rsign (a % 65536) (by omega) (by omega) _).mono ?_
  rintro e w' ⟨rfl, rfl⟩
  go_wp2
  go_ret2
  refine ⟨?_, rfl⟩
  show Ending.returned (.tuple #[.int .i64 (pt (a / 65536 % 65536)), .int .i64 (pt (a % 65536))]) = _
  rw [pt_mod, pt_mod]; rfl

set_option maxHeartbeats 400000 in
theorem rnorm (a : Int) (h0 : 0 ≤ a) (w : World) :
    Calls Try.prog 17 #[.int .u64 a] w fun e w' => e = .returned (.int .u64 (nrm a)) ∧ w = w' := by
  go_enter Try.func17, Try.ntmps17
  go_wp2
  go_ret
  exact ⟨ret_int (nrm_eq a).symm, rfl⟩

set_option maxHeartbeats 400000 in
theorem radd (a b : Int) (h0 : 0 ≤ a) (h1 : 0 ≤ b) (k0 : a ≤ 18446744073709551615) (k1 : b ≤ 18446744073709551615) (w : World) :
    Calls Try.prog 19 #[.int .u64 a, .int .u64 b] w fun e w' => e = .returned (.int .u64 (addw a b)) ∧ w = w' := by
  obtain ⟨c1, c2⟩ := re_bd a
  obtain ⟨c3, c4⟩ := re_bd b
  obtain ⟨c5, c6⟩ := im_bd a
  obtain ⟨c7, c8⟩ := im_bd b
  go_enter Try.func19, Try.ntmps19
  go_wp2_with (fail)
  refine (rparts a h0 k0 _).mono ?_
  rintro e w' ⟨rfl, rfl⟩
  go_wp2_with (fail)
  refine (rparts b h1 k1 _).mono ?_
  rintro e w' ⟨rfl, rfl⟩
  go_wp2_with (fail)
  refine (rpack (re a + re b) (im a + im b) _).mono ?_
  rintro e w' ⟨rfl, rfl⟩
  go_wp2
  go_ret
  exact ⟨rfl, rfl⟩

theorem poww_le (a : Int) (n : Nat) : poww a n ≤ 18446744073709551615 := by
  cases n
  · have := (pk_bd 1 0).2; show pk 1 0 ≤ _; omega
  · rename_i n; have : mulw (poww a n) a ≤ 4294967295 := (pk_bd _ _).2; show mulw (poww a n) a ≤ _; omega

set_option maxHeartbeats 400000 in
theorem rmul (a b : Int) (h0 : 0 ≤ a) (h1 : 0 ≤ b) (k0 : a ≤ 18446744073709551615) (k1 : b ≤ 18446744073709551615) (w : World) :
    Calls Try.prog 21 #[.int .u64 a, .int .u64 b] w fun e w' => e = .returned (.int .u64 (mulw a b)) ∧ w = w' := by
  obtain ⟨m1, n1⟩ := mul_bd (re_bd a) (re_bd b)
  obtain ⟨m2, n2⟩ := mul_bd (im_bd a) (im_bd b)
  obtain ⟨m3, n3⟩ := mul_bd (re_bd a) (im_bd b)
  obtain ⟨m4, n4⟩ := mul_bd (im_bd a) (re_bd b)
  go_enter Try.func21, Try.ntmps21
  go_wp2_with (fail)
  refine (rparts a h0 k0 _).mono ?_
  rintro e w' ⟨rfl, rfl⟩
  go_wp2_with (fail)
  refine (rparts b h1 k1 _).mono ?_
  rintro e w' ⟨rfl, rfl⟩
  go_wp2_with (fail)
  refine (rpack (re a * re b - im a * im b) (re a * im b + im a * re b) _).mono ?_
  rintro e w' ⟨rfl, rfl⟩
  go_wp2
  go_ret
  exact ⟨rfl, rfl⟩

set_option maxHeartbeats 400000 in
theorem rconj (a : Int) (h0 : 0 ≤ a) (k0 : a ≤ 18446744073709551615) (w : World) :
    Calls Try.prog 23 #[.int .u64 a] w fun e w' => e = .returned (.int .u64 (cnj a)) ∧ w = w' := by
  obtain ⟨c5, c6⟩ := im_bd a
  go_enter Try.func23, Try.ntmps23
  go_wp2_with (fail)
  refine (rparts a h0 k0 _).mono ?_
  rintro e w' ⟨rfl, rfl⟩
  go_wp2_with (fail)
  refine (rpack (re a) (-im a) _).mono ?_
  rintro e w' ⟨rfl, rfl⟩
  go_wp2
  go_ret
  exact ⟨rfl, rfl⟩

set_option maxHeartbeats 1000000 in
theorem rpow_in (a n : Int) (N : Nat) (h0 : 0 ≤ a) (k0 : a ≤ 18446744073709551615) (hN : N ≤ 64) (hn : N = min n.toNat 64) (w : World) :
    Calls Try.prog 25 #[.int .u64 a, .int .i64 n] w fun e w' => e = .returned (.int .u64 (poww a N)) ∧ w = w' := by
  have HN := Lib.hid hn
  clear hn
  by_cases h : 64 < n
  all_goals
    go_enter Try.func25, Try.ntmps25
    go_wp2_with (fail)
    refine (rpack 1 0 _).mono ?_
    rintro e w' ⟨rfl, rfl⟩
    go_wp2_with (fail)
    go_loop [5, 6] (fun v i => ∃ k : Nat, k ≤ N ∧ i = .int .i64 k ∧ v = .int .u64 (poww a k)) (fun _ i => N - (intOf i).toNat)
    case atStart => exact ⟨0, Nat.zero_le _, rfl, rfl⟩
    case round =>
      obtain ⟨k, hk, rfl, rfl⟩ := hrel
      by_cases hlt : k < N
      · have hlt' : (k : Int) < 64 := by omega
        have hlt2 : (k : Int) < n := by have := HN.out; omega
        go_wp2_with (fail)
        refine (rmul _ _ (poww_nn _ _) h0 (poww_le _ _) k0 _).mono ?_
        rintro e w' ⟨rfl, rfl⟩
        go_wp2_with (fail)
        go_round
        case rel => exact ⟨k + 1, by omega, by go_num, rfl⟩
        case measure => simp [intOf]; omega
      · have hke : k = N := by omega
        have hlt' : ¬ ((k : Int) < n ∧ (k : Int) < 64) := by have := HN.out; omega
        have hlt2 : 64 < n → ¬ (k : Int) < 64 := by omega
        have hlt3 : n ≤ 64 → ¬ (k : Int) < n := by omega
        have HK := Lib.hid hke
        clear hke hlt'
        first
          | (have g := hlt2 h; clear hlt2 hlt3 hlt; go_wp2_with (fail); go_ret; exact ⟨ret_int (by rw [HK.out]), rfl⟩)
          | (have g := hlt3 h; clear hlt2 hlt3 hlt; go_wp2_with (fail); go_ret; exact ⟨ret_int (by rw [HK.out]), rfl⟩)

theorem rpow (a n : Int) (h0 : 0 ≤ a) (k0 : a ≤ 18446744073709551615) (w : World) :
    Calls Try.prog 25 #[.int .u64 a, .int .i64 n] w fun e w' => e = .returned (.int .u64 (poww a (min n.toNat 64))) ∧ w = w' :=
  rpow_in a n _ h0 k0 (Nat.min_le_right _ _) rfl w

end Go.Proofs.Ytiihhgpmkodjmaa
