/- Powers (num.Pow) are as the mathematics says, for every word and every number. -/
import Derived.Test.YtiihhgpmkodjmaaWlk
import Derived.ScopeJumps
namespace Go.Proofs.Ytiihhgpmkodjmaa
open Go.ChangeShapes Go.WideShapes Go.ChangeAt Go.RowKit
set_option linter.unusedVariables false

/-- What holds at the label. -/
def AtLabel (a n N : Int) (w : World) (a' : Act) (w' : World) : Prop :=
  ∃ (m : Nat) (l : Int) (u7 u8 u9 u10 u11 u12 u13 u14 u15 u16 u17 : Value),
    a' = { tmps := #[.int .u64 a, .int .i64 n, undef, undef, .int .u64 0, .int .u64 (poww a m), .int .i64 l, u7, u8, u9, u10, u11, u12, u13, u14, u15, u16, u17], defers := [] }
      ∧ m + l.toNat = N.toNat ∧ l ≤ 64 ∧ -9223372036854775808 ≤ l ∧ Grown w w'

set_option maxHeartbeats 1000000 in
theorem pow_any (a n N : Int) (h0 : 0 ≤ a) (hN : N = if 64 < n then 64 else n) (hlo : -9223372036854775808 ≤ n) (w : World) :
    Calls Try.prog 24 #[.int .u64 a, .int .i64 n] w fun e w' => e = .returned (.int .u64 (poww a N.toNat)) ∧ Grown w w' := by
  have b1 : N ≤ 64 := by rw [hN]; split <;> omega
  have b2 : -9223372036854775808 ≤ N := by rw [hN]; split <;> omega
  have hmin : ∀ w, (Builtin.min_ #[3, 3] 3 #[.int .i64 n, .int .i64 64]).run Try.prog w = .ok (.int .i64 N) w := fun w => by rw [run_min_int2, ← hN]
  clear hN hlo
  go_enter Try.func24, Try.ntmps24
  go_wp2
  refine wp_scope_jumps 0 (AtLabel a n N w) (fun a' _ => (intOf (a'.tmps.getD 6 undef)).toNat) rfl ?_ ?_
  · go_wp2_with (fail)
    refine (pack_any _ _ _).mono ?_
    rintro e w1 ⟨rfl, rfl⟩
    by_cases hl : N < 1
    · go_wp2_with (fail)
      go_step3
      go_wp2_with (fail)
      simp only [Exit.jump]
      go_ret
      have hz : N.toNat = 0 := by omega
      rw [hz]
      exact ⟨rfl, Grown.refl _⟩
    · go_wp2_with (fail)
      go_step3
      go_wp2_with (fail)
      refine (mul_any _ _ (pk_nn _ _) h0 _).mono ?_
      rintro e w2 ⟨rfl, hg⟩
      go_wp2_with (fail)
      go_step3
      refine ⟨rfl, 1, N - 1, _, _, _, _, _, _, _, _, _, _, _, rfl, by omega, by omega, by omega, hg⟩
  · rintro a' w' ⟨m, l, u7, u8, u9, u10, u11, u12, u13, u14, u15, u16, u17, rfl, hm, h1, h2, hg⟩
    by_cases hl : l < 1
    · go_wp2_with (fail)
      simp only [Exit.jump]
      go_ret
      have hz : N.toNat = m := by omega
      rw [hz]
      exact ⟨rfl, hg⟩
    · go_wp2_with (fail)
      refine (mul_any _ _ (poww_nn _ _) h0 _).mono ?_
      rintro e w2 ⟨rfl, hg2⟩
      go_wp2_with (fail)
      go_step3
      refine ⟨rfl, ⟨m + 1, l - 1, _, _, _, _, _, _, _, _, _, _, _, rfl, by omega, by omega, by omega, grown_trans hg hg2⟩, ?_⟩
      simp [intOf]
      omega

theorem pow_min (n : Int) : (if 64 < n then 64 else n : Int).toNat = min n.toNat 64 := by split <;> omega

/-- The same, said with numbers from 0 to 64. -/
theorem pow_all (a n : Int) (h0 : 0 ≤ a) (hlo : -9223372036854775808 ≤ n) (w : World) :
    Calls Try.prog 24 #[.int .u64 a, .int .i64 n] w fun e w' => e = .returned (.int .u64 (poww a (min n.toNat 64))) ∧ Grown w w' := by
  have h := pow_any a n _ h0 rfl hlo w
  rwa [pow_min] at h

end Go.Proofs.Ytiihhgpmkodjmaa
