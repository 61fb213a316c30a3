/- Heads: contracts. -/
import Derived.Test.YtanhhkdoejnpiaaGreatAd
import Derived.IntWalk
import Derived.Laws.BitsAllLaws
import Derived.RangeFuncBox
import Derived.RangeFuncNested
import Derived.RangeFuncBound
import Derived.RangeFuncCalls
import Derived.RangeFuncLeaves
import Derived.Shelf.Abstract
import Derived.OwnWalkIn
import Derived.TacticsInMore
import Derived.LoopNIn
import Derived.LoopIn
import Derived.Maps.AppendAt
import Derived.Lib.Strings
import Derived.Lib.Slices
import Derived.Lib.Small
import Derived.Lib.Walk
import Derived.Lib.BitFns
/-! Of stage 5 -/
namespace Go.Proofs.YtanhhkdoejnpiaaGreat
open Go.ChangeShapes Go.WideShapes Go.ChangeAt Go.RowKit
set_option linter.unusedVariables false

set_option maxHeartbeats 400000 in
theorem rpow (n : Nat) (hn : n ≤ 62) (w : World) :
    Calls Tryz.prog 90 #[.int .i64 (n : Int)] w fun e w' => e = .returned (.int .u64 (2 ^ n)) ∧ w = w' := by
  go_enter Tryz.func90, Tryz.ntmps90
  go_wp2
  go_loop [3, 4] (fun v i => ∃ k : Nat, k ≤ n ∧ i = .int .i64 k ∧ v = .int .u64 (2 ^ k)) (fun _ i => n - (intOf i).toNat)
  case atStart => exact ⟨0, Nat.zero_le _, rfl, rfl⟩
  case round =>
    obtain ⟨k, hk, rfl, rfl⟩ := hrel
    obtain ⟨p1, p2⟩ := pow_le k (by omega)
    by_cases hlt : k < n
    · have hs := Lib.hid (pow_step k)
      have p3 := (pow_le (k + 1) (by omega)).2
      rw [hs.out] at p3
      go_wp2
      go_round
      case rel => exact ⟨k + 1, by omega, by go_num, by rw [hs.out]⟩
      case measure => simp [intOf]; omega
    · obtain rfl : k = n := by omega
      go_wp2
      go_ret
      exact ⟨rfl, rfl⟩
theorem quiet_same {P : Program} {f : FuncId} {args : Array Value} {w : World} {n : Nat} {v : Value}
    (h : Calls P f args (w.drewN n) fun e w' => e = .returned v ∧ w.drewN n = w') : Calls P f args (w.drewN n) fun e w'' => e = .returned v ∧ ∃ m, w'' = w.drewN m :=
  h.mono fun _ _ ⟨he, hm⟩ => ⟨he, n, hm.symm⟩
/-- The same, at a number that isn't told as a length. -/
theorem rpow_at (l : Int) (h0 : 0 ≤ l) (h1 : l ≤ 62) (w : World) :
    Calls Tryz.prog 90 #[.int .i64 l] w fun e w' => e = .returned (.int .u64 (2 ^ l.toNat)) ∧ w = w' := by
  have := rpow l.toNat (by omega) w
  rw [Int.toNat_of_nonneg h0] at this
  exact this
theorem div_pow_zero {m : Int} {k : Nat} (h : 0 ≤ m) : m / 2 ^ k = 0 ↔ m < 2 ^ k := by
  have hp : (0 : Int) < 2 ^ k := Int.pow_pos (by decide)
  constructor
  · intro e
    have := Int.lt_ediv_add_one_mul_self m hp
    rw [e] at this
    omega
  · exact fun q => Int.ediv_eq_zero_of_lt h q

set_option maxHeartbeats 400000 in
theorem rright_ok_o (t l m : Int) (hm : 0 ≤ m) (h0 : 1 ≤ t) (h1 : t ≤ 200) (h2 : 0 ≤ l) (h3 : l ≤ 16) (h4 : m / 2 ^ l.toNat = 0) (w : World) :
    Calls Tryz.prog 58 #[hdv t l m] w fun e w' => e = .returned (.int .i64 0) ∧ Up w w' := by
  have n1 : decide (2 ^ l.toNat ≤ m) = false := decide_eq_false (by have := (div_pow_zero hm).1 h4; omega)
  clear h4
  have t0 : (t != 255) = true := by simp; omega
  have t1 : (t == 255) = false := by simp; omega
  go_enter Tryz.func58, Tryz.ntmps58
  go_wp2
  go_quiet ((go_at_call 90; exact quiet_same (rpow_at l h2 (by omega) _)))
  go_wp2
  go_ret
  exact ⟨rfl, ((Up.refl _).alloc _).drewN _⟩

set_option maxHeartbeats 400000 in
theorem rright_ok_f (t l m : Int) (hm : 0 ≤ m) (h0 : t = 255) (h2 : 0 ≤ l) (h3 : l ≤ 65535) (h4 : m = 0) (w : World) :
    Calls Tryz.prog 58 #[hdv t l m] w fun e w' => e = .returned (.int .i64 0) ∧ Up w w' := by
  subst h0 h4
  go_enter Tryz.func58, Tryz.ntmps58
  go_wp2
  go_ret
  exact ⟨rfl, (Up.refl _).alloc _⟩

set_option maxHeartbeats 400000 in
theorem rright_lo (t l m : Int) (hm : 0 ≤ m) (h0 : t < 1) (w : World) :
    Calls Tryz.prog 58 #[hdv t l m] w fun e w' => e = .returned (.int .i64 1) ∧ Up w w' := by
  have t0 : (t != 255) = true := by simp; omega
  go_enter Tryz.func58, Tryz.ntmps58
  go_wp2
  go_ret
  exact ⟨rfl, (Up.refl _).alloc _⟩

set_option maxHeartbeats 400000 in
theorem rright_mid (t l m : Int) (hm : 0 ≤ m) (h0 : 200 < t) (h1 : t < 255) (w : World) :
    Calls Tryz.prog 58 #[hdv t l m] w fun e w' => e = .returned (.int .i64 1) ∧ Up w w' := by
  have t0 : (t != 255) = true := by simp; omega
  have d1 : decide (t < 1) = false := decide_eq_false (by omega)
  have d2 : decide (200 < t) = true := decide_eq_true h0
  go_enter Tryz.func58, Tryz.ntmps58
  go_wp2
  go_ret
  exact ⟨rfl, (Up.refl _).alloc _⟩

set_option maxHeartbeats 400000 in
theorem rright_hi (t l m : Int) (hm : 0 ≤ m) (h0 : 255 < t) (w : World) :
    Calls Tryz.prog 58 #[hdv t l m] w fun e w' => e = .returned (.int .i64 1) ∧ Up w w' := by
  have t0 : (t != 255) = true := by simp; omega
  have d1 : decide (t < 1) = false := decide_eq_false (by omega)
  have d2 : decide (200 < t) = true := decide_eq_true (by omega)
  go_enter Tryz.func58, Tryz.ntmps58
  go_wp2
  go_ret
  exact ⟨rfl, (Up.refl _).alloc _⟩

set_option maxHeartbeats 400000 in
theorem rright_neg_o (t l m : Int) (hm : 0 ≤ m) (h0 : 1 ≤ t) (h1 : t ≤ 200) (h2 : l < 0) (w : World) :
    Calls Tryz.prog 58 #[hdv t l m] w fun e w' => e = .returned (.int .i64 1) ∧ Up w w' := by
  have t0 : (t != 255) = true := by simp; omega
  have t1 : (t == 255) = false := by simp; omega
  go_enter Tryz.func58, Tryz.ntmps58
  go_wp2
  go_ret
  exact ⟨rfl, (Up.refl _).alloc _⟩

set_option maxHeartbeats 400000 in
theorem rright_neg_f (t l m : Int) (hm : 0 ≤ m) (h0 : t = 255) (h2 : l < 0) (w : World) :
    Calls Tryz.prog 58 #[hdv t l m] w fun e w' => e = .returned (.int .i64 1) ∧ Up w w' := by
  subst h0
  go_enter Tryz.func58, Tryz.ntmps58
  go_wp2
  go_ret
  exact ⟨rfl, (Up.refl _).alloc _⟩

set_option maxHeartbeats 400000 in
theorem rright_big_o (t l m : Int) (hm : 0 ≤ m) (h0 : 1 ≤ t) (h1 : t ≤ 200) (h2 : 16 < l) (w : World) :
    Calls Tryz.prog 58 #[hdv t l m] w fun e w' => e = .returned (.int .i64 3) ∧ Up w w' := by
  have d0 : 0 ≤ l := by omega
  have t0 : (t != 255) = true := by simp; omega
  have t1 : (t == 255) = false := by simp; omega
  go_enter Tryz.func58, Tryz.ntmps58
  go_wp2
  go_ret
  exact ⟨rfl, (Up.refl _).alloc _⟩

set_option maxHeartbeats 400000 in
theorem rright_big_f (t l m : Int) (hm : 0 ≤ m) (h0 : t = 255) (h2 : 65535 < l) (w : World) :
    Calls Tryz.prog 58 #[hdv t l m] w fun e w' => e = .returned (.int .i64 3) ∧ Up w w' := by
  subst h0
  have d0 : 0 ≤ l := by omega
  go_enter Tryz.func58, Tryz.ntmps58
  go_wp2
  go_ret
  exact ⟨rfl, (Up.refl _).alloc _⟩

set_option maxHeartbeats 400000 in
theorem rright_kind_o (t l m : Int) (hm : 0 ≤ m) (h0 : 1 ≤ t) (h1 : t ≤ 200) (h2 : 0 ≤ l) (h3 : l ≤ 16) (h4 : ¬ m / 2 ^ l.toNat = 0) (w : World) :
    Calls Tryz.prog 58 #[hdv t l m] w fun e w' => e = .returned (.int .i64 8) ∧ Up w w' := by
  have n1 : decide (2 ^ l.toNat ≤ m) = true := decide_eq_true (by have := mt (div_pow_zero hm).2 h4; omega)
  clear h4
  have t0 : (t != 255) = true := by simp; omega
  have t1 : (t == 255) = false := by simp; omega
  go_enter Tryz.func58, Tryz.ntmps58
  go_wp2
  go_quiet ((go_at_call 90; exact quiet_same (rpow_at l h2 (by omega) _)))
  go_wp2
  go_ret
  exact ⟨rfl, ((Up.refl _).alloc _).drewN _⟩

set_option maxHeartbeats 400000 in
theorem rright_kind_f (t l m : Int) (hm : 0 ≤ m) (h0 : t = 255) (h2 : 0 ≤ l) (h3 : l ≤ 65535) (h4 : ¬ m = 0) (w : World) :
    Calls Tryz.prog 58 #[hdv t l m] w fun e w' => e = .returned (.int .i64 8) ∧ Up w w' := by
  subst h0
  have n1 : (m != 0) = true := by simp [h4]
  clear h4
  go_enter Tryz.func58, Tryz.ntmps58
  go_wp2
  go_ret
  exact ⟨rfl, (Up.refl _).alloc _⟩

theorem rright_any (t l m : Int) (hm : 0 ≤ m) (w : World) :
    Calls Tryz.prog 58 #[hdv t l m] w fun e w' => e = .returned (.int .i64 (rte t l m)) ∧ Up w w' := by
  by_cases h : t < 1 ∨ (200 < t ∧ t ≠ 255) ∨ l < 0
  · rw [rte_1 h]
    by_cases c0 : t < 1
    · exact rright_lo t l m hm c0 w
    by_cases c1 : 255 < t
    · exact rright_hi t l m hm c1 w
    by_cases c2 : t = 255
    · exact rright_neg_f t l m hm c2 (by omega) w
    by_cases c3 : 200 < t
    · exact rright_mid t l m hm c3 (by omega) w
    · exact rright_neg_o t l m hm (by omega) (by omega) (by omega) w
  by_cases k : (t ≠ 255 ∧ 16 < l) ∨ 65535 < l
  · rw [rte_3 h k]
    by_cases c2 : t = 255
    · exact rright_big_f t l m hm c2 (by omega) w
    · exact rright_big_o t l m hm (by omega) (by omega) (by omega) w
  by_cases c2 : t = 255
  · by_cases c4 : m = 0
    · rw [rte_0 h k (fun q => q.elim (fun q => q.1 c2) (fun q => q.2 c4))]
      exact rright_ok_f t l m hm c2 (by omega) (by omega) c4 w
    · rw [rte_8 h k (.inr ⟨c2, c4⟩)]
      exact rright_kind_f t l m hm c2 (by omega) (by omega) c4 w
  · by_cases c4 : m / 2 ^ l.toNat = 0
    · rw [rte_0 h k (fun q => q.elim (fun q => q.2 c4) (fun q => c2 q.1))]
      exact rright_ok_o t l m hm (by omega) (by omega) (by omega) (by omega) c4 w
    · rw [rte_8 h k (.inl ⟨c2, c4⟩)]
      exact rright_kind_o t l m hm (by omega) (by omega) (by omega) (by omega) c4 w


end Go.Proofs.YtanhhkdoejnpiaaGreat
/-! Of stage 5 -/
namespace Go.Proofs.YtanhhkdoejnpiaaGreat
open Go.ChangeShapes Go.WideShapes Go.ChangeAt Go.RowKit
set_option linter.unusedVariables false
set_option linter.unusedSimpArgs false

theorem pow16 (l : Int) (h : l ≤ 16) : (2 : Int) ^ l.toNat ≤ 65536 := by
  have h1 : (2 : Nat) ^ l.toNat ≤ 2 ^ 16 := Nat.pow_le_pow_right (by decide) (by omega)
  have h3 : ((2 : Int) ^ l.toNat) = (((2 : Nat) ^ l.toNat : Nat) : Int) := by simp
  rw [h3]
  have h4 : (2 : Nat) ^ 16 = 65536 := by decide
  omega
/-- A right head's numbers are small. -/
theorem rte_small {t l m : Int} (hm : 0 ≤ m) (h : rte t l m = 0) : 1 ≤ t ∧ t ≤ 255 ∧ 0 ≤ l ∧ l ≤ 65535 ∧ m < 65536 ∧ ((t ≠ 255 ∧ t ≤ 200 ∧ l ≤ 16 ∧ m < 2 ^ l.toNat) ∨ (t = 255 ∧ m = 0)) := by
  unfold rte at h
  split at h
  · omega
  split at h
  · omega
  split at h
  · omega
  rename_i a b c
  by_cases c2 : t = 255
  · have : m = 0 := by omega
    exact ⟨by omega, by omega, by omega, by omega, by omega, .inr ⟨c2, this⟩⟩
  · have q : m / 2 ^ l.toNat = 0 := by
      by_cases q : m / 2 ^ l.toNat = 0
      · exact q
      · exact absurd (.inl ⟨c2, q⟩) c
    have q := (div_pow_zero hm).1 q
    have := pow16 l (by omega)
    exact ⟨by omega, by omega, by omega, by omega, by omega, .inl ⟨c2, by omega, by omega, q⟩⟩

/-- A head's word. -/
def wrd (t l m : Int) : Int := (t * 16777216 + l) * 4294967296 + m

theorem right_is (t l m e : Int) (h : rte t l m = e) (w : World) :
    Calls Tryz.prog 109 #[hdv t l m] w fun r w' => r = .returned (.int .i64 e) ∧ Up w w' := by
  have := right_any t l m w
  rw [h] at this
  exact this
theorem rright_is (t l m e : Int) (hm : 0 ≤ m) (h : rte t l m = e) (w : World) :
    Calls Tryz.prog 58 #[hdv t l m] w fun r w' => r = .returned (.int .i64 e) ∧ Up w w' := by
  have := rright_any t l m hm w
  rw [h] at this
  exact this

theorem or_mul (a b i k : Nat) (hm : k = 2 ^ i) (h : a < k) : (b * k) ||| a = b * k + a := by
  subst hm
  rw [← Nat.shiftLeft_eq, Nat.shiftLeft_add_eq_or_of_lt h]
theorem wrd_or (t l m : Int) (h0 : 0 ≤ t) (h1 : t ≤ 255) (h2 : 0 ≤ l) (h3 : l ≤ 65535) (h4 : 0 ≤ m) (h5 : m < 65536) :
    bits BinOp.or IntKind.u64 (bits BinOp.or IntKind.u64 (t * 72057594037927936) (l * 4294967296)) m = wrd t l m := by
  obtain ⟨a, rfl⟩ := Int.eq_ofNat_of_zero_le h0
  obtain ⟨b, rfl⟩ := Int.eq_ofNat_of_zero_le h2
  obtain ⟨c, rfl⟩ := Int.eq_ofNat_of_zero_le h4
  have e1 : ((a : Int) * 72057594037927936) = ((a * 72057594037927936 : Nat) : Int) := by omega
  have e2 : ((b : Int) * 4294967296) = ((b * 4294967296 : Nat) : Int) := by omega
  rw [e1, e2, u64_or_nat _ _ (by omega) (by omega), or_mul (b * 4294967296) a 56 72057594037927936 (by decide) (by omega)]
  have e3 : a * 72057594037927936 + b * 4294967296 = (a * 16777216 + b) * 4294967296 := by omega
  rw [e3, u64_or_nat _ _ (by omega) (by omega), or_mul c _ 32 4294967296 (by decide) (by omega)]
  unfold wrd
  omega

set_option maxHeartbeats 400000 in
theorem word_ok (t l m : Int) (hm : 0 ≤ m) (h : rte t l m = 0) (w : World) :
    Calls Tryz.prog 121 #[hdv t l m] w fun e w' => e = .returned (.tuple #[.int .u64 (wrd t l m), .int .i64 0]) ∧ Up w w' := by
  obtain ⟨h0, h1, h2, h3, h4, -⟩ := rte_small hm h
  have E := Lib.hid (wrd_or t l m (by omega) h1 h2 h3 hm h4)
  have R := Lib.hid (right_is t l m 0 h)
  have U := Lib.hid (Up.refl w)
  clear h
  go_enter Tryz.func121, Tryz.ntmps121
  go_wp2_with (fail)
  have D := Blk.new w 69 #[.int .i64 t, .int .i64 l, .int .u64 m]
  refine (R.out _).mono ?_
  rintro e w1 ⟨rfl, hg⟩
  replace D := D.up hg
  have Dc := D.cell
  have Df := D.frozen
  have Dl := D.lt
  go_wp2
  rw [E.out]
  go_ret2
  exact ⟨rfl, (U.out.alloc _).trans hg⟩

set_option maxHeartbeats 400000 in
theorem word_no (t l m x : Int) (h : rte t l m = x) (hx : x ≠ 0) (w : World) :
    Calls Tryz.prog 121 #[hdv t l m] w fun e w' => e = .returned (.tuple #[.int .u64 0, .int .i64 x]) ∧ Up w w' := by
  have R := Lib.hid (right_is t l m x h)
  have U := Lib.hid (Up.refl w)
  have n0 : (x != 0) = true := bne_iff_ne.mpr hx
  clear h hx
  go_enter Tryz.func121, Tryz.ntmps121
  go_wp2_with (fail)
  refine (R.out _).mono ?_
  rintro e w1 ⟨rfl, hg⟩
  go_wp2
  go_ret2
  exact ⟨rfl, (U.out.alloc _).trans hg⟩

theorem wrd_bounds (t l m : Int) (h0 : 0 ≤ t) (h1 : t ≤ 255) (h2 : 0 ≤ l) (h3 : l ≤ 65535) (h4 : 0 ≤ m) (h5 : m < 65536) : 0 ≤ wrd t l m ∧ wrd t l m ≤ 18446744073709551615 := by
  unfold wrd; omega

set_option maxHeartbeats 400000 in
theorem rword_ok (t l m : Int) (hm : 0 ≤ m) (h : rte t l m = 0) (w : World) :
    Calls Tryz.prog 88 #[hdv t l m] w fun e w' => e = .returned (.tuple #[.int .u64 (wrd t l m), .int .i64 0]) ∧ Up w w' := by
  obtain ⟨h0, h1, h2, h3, h4, -⟩ := rte_small hm h
  have R := Lib.hid (rright_is t l m 0 hm h)
  have U := Lib.hid (Up.refl w)
  clear h
  go_enter Tryz.func88, Tryz.ntmps88
  go_wp2_with (fail)
  have D := Blk.new w 69 #[.int .i64 t, .int .i64 l, .int .u64 m]
  refine (R.out _).mono ?_
  rintro e w1 ⟨rfl, hg⟩
  replace D := D.up hg
  have Dc := D.cell
  have Df := D.frozen
  have Dl := D.lt
  go_wp2
  go_ret2
  exact ⟨rfl, (U.out.alloc _).trans hg⟩

set_option maxHeartbeats 400000 in
theorem rword_no (t l m x : Int) (hm : 0 ≤ m) (h : rte t l m = x) (hx : x ≠ 0) (w : World) :
    Calls Tryz.prog 88 #[hdv t l m] w fun e w' => e = .returned (.tuple #[.int .u64 0, .int .i64 x]) ∧ Up w w' := by
  have R := Lib.hid (rright_is t l m x hm h)
  have U := Lib.hid (Up.refl w)
  have n0 : (x != 0) = true := bne_iff_ne.mpr hx
  clear h hx
  go_enter Tryz.func88, Tryz.ntmps88
  go_wp2_with (fail)
  refine (R.out _).mono ?_
  rintro e w1 ⟨rfl, hg⟩
  go_wp2
  go_ret2
  exact ⟨rfl, (U.out.alloc _).trans hg⟩

/-- What a head's word is, or that there is none. -/
def wov (t l m : Int) : Int := if rte t l m = 0 then wrd t l m else 0
theorem word_any (t l m : Int) (hm : 0 ≤ m) (w : World) :
    Calls Tryz.prog 121 #[hdv t l m] w fun e w' => e = .returned (.tuple #[.int .u64 (wov t l m), .int .i64 (rte t l m)]) ∧ Up w w' := by
  by_cases h : rte t l m = 0
  · rw [show wov t l m = wrd t l m from if_pos h, h]; exact word_ok t l m hm h w
  · rw [show wov t l m = 0 from if_neg h]; exact word_no t l m _ rfl h w
theorem rword_any (t l m : Int) (hm : 0 ≤ m) (w : World) :
    Calls Tryz.prog 88 #[hdv t l m] w fun e w' => e = .returned (.tuple #[.int .u64 (wov t l m), .int .i64 (rte t l m)]) ∧ Up w w' := by
  by_cases h : rte t l m = 0
  · rw [show wov t l m = wrd t l m from if_pos h, h]; exact rword_ok t l m hm h w
  · rw [show wov t l m = 0 from if_neg h]; exact rword_no t l m _ hm rfl h w

/-! ### A word's head -/
/-- The three parts of a word. -/
def tgw (a : Int) : Int := a / 72057594037927936
def lnw (a : Int) : Int := a / 4294967296 % 16777216
def mpw (a : Int) : Int := a % 4294967296
theorem mpw_nn (a : Int) : 0 ≤ mpw a := by unfold mpw; omega

theorem and24 (z : Int) (h0 : 0 ≤ z) (h1 : z < 18446744073709551616) : bits .and .u64 z 16777215 = z % 16777216 := by go_bits2

theorem rem24 (z : Int) (h0 : 0 ≤ z) (h1 : z < 18446744073709551616) : bits .and .u64 z 16777215 = z % 16777216 := by go_bits2
theorem w64_of (z : Int) (h0 : 0 ≤ z) (h1 : z ≤ 9223372036854775807) : wrap64 z = z := by unfold wrap64; omega

theorem Blk.new1 (w : World) (o : Obj) (t : TypeId) (cs : Array Value) : Blk ((w.alloc o).alloc (.cells cs t)) (w.heap.size + 1) t cs := by
  have h := Blk.new (w.alloc o) t cs
  simpa using h
set_option maxHeartbeats 400000 in
theorem take_ok (a t l m : Int) (h0 : 0 ≤ a) (h1 : a ≤ 18446744073709551615) (ht : tgw a = t) (hl : lnw a = l) (hm : mpw a = m) (h : rte t l m = 0) (w : World) :
    Calls Tryz.prog 68 #[.int .u64 a] w fun e w' => e = .returned (.tuple #[hdv t l m, .int .i64 0]) ∧ Up w w' := by
  have E1 := Lib.hid (show a / 72057594037927936 = t from ht)
  have E2 := Lib.hid (show bits .and .u64 (a / 4294967296) 16777215 = l from (and24 _ (by omega) (by omega)).trans hl)
  have E2w := Lib.hid (show wrap64 l = l from w64_of l (by rw [← hl]; unfold lnw; omega) (by rw [← hl]; unfold lnw; omega))
  have E3 := Lib.hid (show bits .and .u64 a 4294967295 = m from (and_low32 a h0 (by omega)).trans hm)
  have R := Lib.hid (right_is t l m 0 h)
  have U := Lib.hid (Up.refl w)
  clear ht hl hm h
  go_enter Tryz.func68, Tryz.ntmps68
  go_wp2_with (fail)
  rw [E2.out, E2w.out, E3.out, E1.out]
  have D := Blk.new1 w (.cells #[.int .i64 0, .int .i64 0, .int .u64 0] 69) 69 #[.int .i64 t, .int .i64 l, .int .u64 m]
  have D0 := (Blk.new w 69 #[.int .i64 0, .int .i64 0, .int .u64 0]).alloc (.cells #[.int .i64 t, .int .i64 l, .int .u64 m] 69)
  refine (R.out _).mono ?_
  rintro e w1 ⟨rfl, hg⟩
  replace D := D.up hg
  replace D0 := D0.up hg
  have Dc := D.cell
  have Df := D.frozen
  have Dl := D.lt
  have D0c := D0.cell
  have D0f := D0.frozen
  have D0l := D0.lt
  go_wp2
  refine bodyPost_ret (v := .tuple #[hdv t l m, .int .i64 0]) (by simp [results, Tryz.results68, go_sem, D0c, D0l]) rfl ⟨rfl, ?_⟩
  exact (((U.out.alloc _).alloc _).trans hg).set3 (Nat.le_refl _) _ _ _

set_option maxHeartbeats 400000 in
theorem take_no (a t l m x : Int) (h0 : 0 ≤ a) (h1 : a ≤ 18446744073709551615) (ht : tgw a = t) (hl : lnw a = l) (hm : mpw a = m) (h : rte t l m = x) (hx : x ≠ 0) (w : World) :
    Calls Tryz.prog 68 #[.int .u64 a] w fun e w' => e = .returned (.tuple #[hdv 0 0 0, .int .i64 10]) ∧ Up w w' := by
  have E1 := Lib.hid (show a / 72057594037927936 = t from ht)
  have E2 := Lib.hid (show bits .and .u64 (a / 4294967296) 16777215 = l from (and24 _ (by omega) (by omega)).trans hl)
  have E2w := Lib.hid (show wrap64 l = l from w64_of l (by rw [← hl]; unfold lnw; omega) (by rw [← hl]; unfold lnw; omega))
  have E3 := Lib.hid (show bits .and .u64 a 4294967295 = m from (and_low32 a h0 (by omega)).trans hm)
  have R := Lib.hid (right_is t l m x h)
  have U := Lib.hid (Up.refl w)
  have n0 : (x != 0) = true := bne_iff_ne.mpr hx
  clear ht hl hm h hx
  go_enter Tryz.func68, Tryz.ntmps68
  go_wp2_with (fail)
  rw [E2.out, E2w.out, E3.out, E1.out]
  have D0 := (Blk.new w 69 #[.int .i64 0, .int .i64 0, .int .u64 0]).alloc (.cells #[.int .i64 t, .int .i64 l, .int .u64 m] 69)
  refine (R.out _).mono ?_
  rintro e w1 ⟨rfl, hg⟩
  replace D0 := D0.up hg
  have D0c := D0.cell
  have D0f := D0.frozen
  have D0l := D0.lt
  go_wp2
  refine bodyPost_ret (v := .tuple #[hdv 0 0 0, .int .i64 10]) (by simp [results, Tryz.results68, go_sem, D0c, D0l]) rfl ⟨rfl, ?_⟩
  exact (((U.out.alloc _).alloc _).trans hg).set3 (Nat.le_refl _) _ _ _

set_option maxHeartbeats 400000 in
theorem rtake_ok (a t l m : Int) (h0 : 0 ≤ a) (h1 : a ≤ 18446744073709551615) (ht : tgw a = t) (hl : lnw a = l) (hm : mpw a = m) (h : rte t l m = 0) (w : World) :
    Calls Tryz.prog 80 #[.int .u64 a] w fun e w' => e = .returned (.tuple #[hdv t l m, .int .i64 0]) ∧ Up w w' := by
  have E1 := Lib.hid (show a / 72057594037927936 = t from ht)
  have E2 := Lib.hid (show a / 4294967296 % 16777216 = l from hl)
  have E3 := Lib.hid (show a % 4294967296 = m from hm)
  have R := Lib.hid (rright_is t l m 0 (by rw [← hm]; exact mpw_nn a) h)
  have U := Lib.hid (Up.refl w)
  clear ht hl hm h
  go_enter Tryz.func80, Tryz.ntmps80
  go_wp2_with (fail)
  rw [E2.out, E3.out, E1.out]
  have D := Blk.new1 w (.cells #[.int .i64 0, .int .i64 0, .int .u64 0] 69) 69 #[.int .i64 t, .int .i64 l, .int .u64 m]
  have D0 := (Blk.new w 69 #[.int .i64 0, .int .i64 0, .int .u64 0]).alloc (.cells #[.int .i64 t, .int .i64 l, .int .u64 m] 69)
  refine (R.out _).mono ?_
  rintro e w1 ⟨rfl, hg⟩
  replace D := D.up hg
  replace D0 := D0.up hg
  have Dc := D.cell
  have Df := D.frozen
  have Dl := D.lt
  have D0c := D0.cell
  have D0f := D0.frozen
  have D0l := D0.lt
  go_wp2
  refine bodyPost_ret (v := .tuple #[hdv t l m, .int .i64 0]) (by simp [results, Tryz.results80, go_sem, D0c, D0l]) rfl ⟨rfl, ?_⟩
  exact (((U.out.alloc _).alloc _).trans hg).set3 (Nat.le_refl _) _ _ _

set_option maxHeartbeats 400000 in
theorem rtake_no (a t l m x : Int) (h0 : 0 ≤ a) (h1 : a ≤ 18446744073709551615) (ht : tgw a = t) (hl : lnw a = l) (hm : mpw a = m) (h : rte t l m = x) (hx : x ≠ 0) (w : World) :
    Calls Tryz.prog 80 #[.int .u64 a] w fun e w' => e = .returned (.tuple #[hdv 0 0 0, .int .i64 10]) ∧ Up w w' := by
  have E1 := Lib.hid (show a / 72057594037927936 = t from ht)
  have E2 := Lib.hid (show a / 4294967296 % 16777216 = l from hl)
  have E3 := Lib.hid (show a % 4294967296 = m from hm)
  have R := Lib.hid (rright_is t l m x (by rw [← hm]; exact mpw_nn a) h)
  have U := Lib.hid (Up.refl w)
  have n0 : (x != 0) = true := bne_iff_ne.mpr hx
  clear ht hl hm h hx
  go_enter Tryz.func80, Tryz.ntmps80
  go_wp2_with (fail)
  rw [E2.out, E3.out, E1.out]
  have D0 := (Blk.new w 69 #[.int .i64 0, .int .i64 0, .int .u64 0]).alloc (.cells #[.int .i64 t, .int .i64 l, .int .u64 m] 69)
  refine (R.out _).mono ?_
  rintro e w1 ⟨rfl, hg⟩
  replace D0 := D0.up hg
  have D0c := D0.cell
  have D0f := D0.frozen
  have D0l := D0.lt
  go_wp2
  refine bodyPost_ret (v := .tuple #[hdv 0 0 0, .int .i64 10]) (by simp [results, Tryz.results80, go_sem, D0c, D0l]) rfl ⟨rfl, ?_⟩
  exact (((U.out.alloc _).alloc _).trans hg).set3 (Nat.le_refl _) _ _ _

/-- Is a word a right head's? -/
def tkb (a : Int) : Prop := rte (tgw a) (lnw a) (mpw a) = 0
instance (a : Int) : Decidable (tkb a) := inferInstanceAs (Decidable (_ = _))
def tkt (a : Int) : Int := if tkb a then tgw a else 0
def tkl (a : Int) : Int := if tkb a then lnw a else 0
def tkm (a : Int) : Int := if tkb a then mpw a else 0
def tke (a : Int) : Int := if tkb a then 0 else 10
theorem take_any (a : Int) (h0 : 0 ≤ a) (h1 : a ≤ 18446744073709551615) (w : World) :
    Calls Tryz.prog 68 #[.int .u64 a] w fun e w' => e = .returned (.tuple #[hdv (tkt a) (tkl a) (tkm a), .int .i64 (tke a)]) ∧ Up w w' := by
  by_cases h : tkb a
  · rw [show tkt a = _ from if_pos h, show tkl a = _ from if_pos h, show tkm a = _ from if_pos h, show tke a = _ from if_pos h]
    exact take_ok a _ _ _ h0 h1 rfl rfl rfl h w
  · rw [show tkt a = _ from if_neg h, show tkl a = _ from if_neg h, show tkm a = _ from if_neg h, show tke a = _ from if_neg h]
    exact take_no a _ _ _ _ h0 h1 rfl rfl rfl rfl h w
theorem rtake_any (a : Int) (h0 : 0 ≤ a) (h1 : a ≤ 18446744073709551615) (w : World) :
    Calls Tryz.prog 80 #[.int .u64 a] w fun e w' => e = .returned (.tuple #[hdv (tkt a) (tkl a) (tkm a), .int .i64 (tke a)]) ∧ Up w w' := by
  by_cases h : tkb a
  · rw [show tkt a = _ from if_pos h, show tkl a = _ from if_pos h, show tkm a = _ from if_pos h, show tke a = _ from if_pos h]
    exact rtake_ok a _ _ _ h0 h1 rfl rfl rfl h w
  · rw [show tkt a = _ from if_neg h, show tkl a = _ from if_neg h, show tkm a = _ from if_neg h, show tke a = _ from if_neg h]
    exact rtake_no a _ _ _ _ h0 h1 rfl rfl rfl rfl h w

end Go.Proofs.YtanhhkdoejnpiaaGreat
/-! Of stage 5 -/
namespace Go.Proofs.YtanhhkdoejnpiaaGreat
open Go.ChangeShapes Go.WideShapes Go.ChangeAt Go.RowKit
set_option linter.unusedVariables false
set_option linter.unusedSimpArgs false

set_option maxHeartbeats 400000 in
theorem words_f (t l m : Int) (ht : t = 255) (h0 : 0 ≤ l) (h1 : l ≤ 65535) (w : World) :
    Calls Tryz.prog 83 #[hdv t l m] w fun e w' => e = .returned (.int .i64 (l + 1)) ∧ Up w w' := by
  subst ht
  have U := Lib.hid (Up.refl w)
  go_enter Tryz.func83, Tryz.ntmps83
  go_wp2
  go_ret
  exact ⟨rfl, (((U.out.alloc _).alloc _).alloc _).alloc _⟩

set_option maxHeartbeats 400000 in
theorem words_o (t l m : Int) (ht : t < 255) (h0 : 0 ≤ l) (h1 : l ≤ 16) (w : World) :
    Calls Tryz.prog 83 #[hdv t l m] w fun e w' => e = .returned (.int .i64 (2 + l)) ∧ Up w w' := by
  have d1 : decide (255 ≤ t) = false := decide_eq_false (by omega)
  have U := Lib.hid (Up.refl w)
  go_enter Tryz.func83, Tryz.ntmps83
  go_wp2
  go_ret
  exact ⟨rfl, (U.out.alloc _).alloc _⟩

/-- Is a field a pointer? -/
def ptb (l m i : Int) : Bool := decide (0 ≤ i) && (decide (i < l) && (m / 2 ^ i.toNat % 2 == 1))
theorem and1 (z : Int) (h0 : 0 ≤ z) (h1 : z < 18446744073709551616) : bits .and .u64 z 1 = z % 2 := by go_bits2

set_option maxHeartbeats 400000 in
theorem ptr_any (t l m i : Int) (hm : 0 ≤ m) (hm1 : m ≤ 18446744073709551615) (h1 : i ≤ 62) (w : World) :
    Calls Tryz.prog 78 #[hdv t l m, .int .i64 i] w fun e w' => e = .returned (.bool (ptb l m i)) ∧ Up w w' := by
  have U := Lib.hid (Up.refl w)
  by_cases c0 : 0 ≤ i
  · by_cases c1 : i < l
    · have hd : 0 ≤ m / 2 ^ i.toNat ∧ m / 2 ^ i.toNat ≤ m := ⟨Int.ediv_nonneg hm (by have := (pow_le i.toNat (by omega)).1; omega), Int.ediv_le_self _ hm⟩
      have E : (bits BinOp.and IntKind.u64 (m / 2 ^ i.toNat) 1 == 1) = ptb l m i := by
        rw [and1 _ hd.1 (by omega)]
        unfold ptb
        rw [decide_eq_true c0, decide_eq_true c1]
        rfl
      clear hd
      generalize ptb l m i = b at E
      go_enter Tryz.func78, Tryz.ntmps78
      go_wp2
      go_ret
      exact ⟨rfl, (Up.refl _).alloc _⟩
    · have E : ptb l m i = false := by unfold ptb; rw [decide_eq_false c1, Bool.false_and, Bool.and_false]
      rw [E]
      clear E
      have d1 : decide (i < l) = false := decide_eq_false c1
      go_enter Tryz.func78, Tryz.ntmps78
      go_wp2
      go_ret
      exact ⟨rfl, (Up.refl _).alloc _⟩
  · have E : ptb l m i = false := by unfold ptb; rw [decide_eq_false c0, Bool.false_and]
    rw [E]
    clear E
    have d0 : decide (0 ≤ i) = false := decide_eq_false c0
    go_enter Tryz.func78, Tryz.ntmps78
    go_wp2
    go_ret
    exact ⟨rfl, (Up.refl _).alloc _⟩

end Go.Proofs.YtanhhkdoejnpiaaGreat
/-! Of stage 4 -/
namespace Go.Proofs.YtanhhkdoejnpiaaGreat
open Go.ChangeShapes Go.WideShapes Go.ChangeAt Go.RowKit
set_option linter.unusedVariables false
set_option linter.unusedSimpArgs false

theorem tab_at' : ∀ n : Fin 256, (Lib.len8 (n.val : Int)) = (Lib.bitLen n.val : Int) := Lib.len8_eq
theorem tab_at (x : Int) (h0 : 0 ≤ x) (h1 : x ≤ 255) (h : x.toNat < Lib.len8tab.size) : ((Lib.len8tab[x.toNat]'h).toNat : Int) = (Lib.bitLen x.toNat : Int) := by
  have e := Lib.len8_of x h0 h1
  unfold Lib.len8 at e
  rw [ByteArray.getElem?_lt' _ _ h] at e
  exact e
theorem w64_nat (n : Nat) (h : n ≤ 1000) : wrap64 (n : Int) = n := by unfold wrap64; omega

set_option maxHeartbeats 400000 in
set_option maxRecDepth 100000 in
/-- How many bits a small number has. -/
theorem len_any (x : Int) (w : World) (h0 : 0 ≤ x) (h1 : x ≤ 65535) :
    Calls Tryz.prog 157 #[.int .u64 x] w fun e w' => e = .returned (.int .i64 (Lib.bitLen x.toNat)) ∧ w = w' := by
  by_cases c : x < 256
  · have hz : x < (Lib.len8tab.size : Int) := by rw [Lib.len8tab_size]; omega
    have ht : x.toNat < Lib.len8tab.size := by omega
    have T := Lib.hid (tab_at x h0 (by omega) ht)
    have l := Lib.hid (Lib.bitLen_le8' x h0 (by omega))
    go_enter Tryz.func157, Tryz.ntmps157
    go_wp2
    go_ret
    have l := l.out
    exact ⟨ret_int (by rw [T.out, w64_nat _ (by omega), w64_nat _ (by omega)]), rfl⟩
  · have c0 : 256 ≤ x := by omega
    have hx0 : 0 ≤ x / 256 := by omega
    have hz : x / 256 < (Lib.len8tab.size : Int) := by rw [Lib.len8tab_size]; omega
    have ht : (x / 256).toNat < Lib.len8tab.size := by omega
    have T := Lib.hid (tab_at (x / 256) hx0 (by omega) ht)
    have l := Lib.hid (Lib.bitLen_le8' (x / 256) hx0 (by omega))
    have s := Lib.hid (Lib.bitLen_shift8 x.toNat (by omega) (by omega))
    have e : Hid ((x / 256).toNat = x.toNat / 256) := Lib.hid (by omega)
    go_enter Tryz.func157, Tryz.ntmps157
    go_wp2
    go_ret
    have l := l.out
    exact ⟨ret_int (by rw [T.out, w64_nat _ (by omega), s.out, ← e.out]; unfold wrap64; omega), rfl⟩
theorem len_16 (n : Nat) (h : n ≤ 65535) : Lib.bitLen n ≤ 16 := Lib.bitLenAux_le 64 n 16 (by omega)
theorem len_lt' : ∀ (f x : Nat), x < 2 ^ f → x < 2 ^ Lib.bitLenAux f x
  | 0, x, h => by simpa [Lib.bitLenAux] using h
  | f + 1, x, h => by
    unfold Lib.bitLenAux
    split
    · subst_vars; simp
    · have := len_lt' f (x / 2) (by rw [Nat.pow_succ] at h; omega)
      rw [Nat.pow_add]
      omega
theorem len_lt (n : Nat) (h : n ≤ 65535) : n < 2 ^ Lib.bitLen n := len_lt' 64 n (by omega)

end Go.Proofs.YtanhhkdoejnpiaaGreat
/-! Of stage 4 -/
namespace Go.Proofs.YtanhhkdoejnpiaaGreat
open Go.ChangeShapes Go.WideShapes Go.ChangeAt Go.RowKit Go.Shelf
set_option linter.unusedVariables false
set_option linter.unusedSimpArgs false
attribute [local go_sem] Oper.semAt_some

theorem Up.gb {a b : World} (h : Up a b) : a.grownBy b none := ⟨h.os, h.tape, h.output, h.size, fun i hi _ => h.block i hi⟩
theorem Up.bel {a b : World} {n : Nat} (h : Up a b) (hn : n ≤ a.heap.size) : Below n a b := Below.mono h hn

/-- The first fields that are pointers. -/
def fst (l m : Int) (k : Nat) : List Nat := (List.range k).filter fun i => ptb l m i
theorem fst_yes {l m : Int} {k : Nat} (h : ptb l m k = true) : fst l m (k + 1) = fst l m k ++ [k] := by
  simp [fst, List.range_succ, h]
theorem fst_no {l m : Int} {k : Nat} (h : ptb l m k = false) : fst l m (k + 1) = fst l m k := by
  simp [fst, List.range_succ, h]
theorem fst_pre (l m : Int) (k : Nat) : ∀ n, k ≤ n → fst l m k <+: fst l m n := by
  intro n h
  obtain ⟨d, rfl⟩ := Nat.le.dest h
  induction d with
  | zero => exact List.prefix_rfl
  | succ d ih =>
    refine (ih (by omega)).trans ?_
    rw [← Nat.add_assoc]
    cases hb : ptb l m ((k + d : Nat) : Int)
    · rw [fst_no hb]
      exact List.prefix_rfl
    · rw [fst_yes hb]
      exact List.prefix_append _ _

set_option maxRecDepth 100000 in
set_option maxHeartbeats 1000000 in
theorem it_stops (n : Nat) (hn : 1 ≤ n) (Bn : Nat) (t lo m : Int) (hm : 0 ≤ m) (hm1 : m ≤ 65535) (w : World) (Kp : World → World → Prop)
    (hKp : ∀ A B, Kp A B → Blk A Bn 69 #[.int .i64 t, .int .i64 lo, .int .u64 m] → Blk B Bn 69 #[.int .i64 t, .int .i64 lo, .int .u64 m])
    (hc : Blk w Bn 69 #[.int .i64 t, .int .i64 lo, .int .u64 m]) :
    SeqStopsK Fence.wide n Tryz.prog 156 #[.pointer (some ⟨Bn, 0, none⟩)] (fun x : Nat => #[Value.int .i64 x]) Kp (fun ys => ys = fst lo m (Lib.bitLen m.toNat)) (fun pre => pre <+: fst lo m (Lib.bitLen m.toNat)) (fst lo m (Lib.bitLen m.toNat)).length w := by
  intro l J Jx W hW hJ hJx hY h0
  have hN := len_16 m.toNat (by omega)
  obtain ⟨N, hNe⟩ : ∃ N, Lib.bitLen m.toNat = N := ⟨_, rfl⟩
  have hl := Lib.hid (fun w => len_any m w hm hm1)
  rw [hNe] at hl hY hN ⊢
  clear hNe
  have D := hc.up hW
  have Dc := D.cell
  refine callsIn_of_wp Tryz.func156 rfl trivial ?_ rfl
  simp only [Tryz.ntmps156, List.size_toArray, List.length_cons, List.length_nil, Nat.reduceAdd, Nat.reduceSub, Array.replicate_succ, Array.replicate_zero, List.push_toArray, List.append_toArray, List.nil_append, List.cons_append]
  gi_wp2_with (refine ⟨trivial, ?_⟩; gi_at_call 157; refine (callsIn_wide.2 (hl.out _)).mono ?_; rintro e w' ⟨rfl, rfl⟩)
  clear Dc hl
  gi_loopw [7] (fun i wr => ∃ k : Nat, k ≤ N ∧ i = .int .i64 k ∧ J (fst lo m k) wr ∧ Blk wr Bn 69 #[.int .i64 t, .int .i64 lo, .int .u64 m] ) (fun i _ => N - (intOf i).toNat)
  case atStart => exact ⟨0, Nat.zero_le _, rfl, h0, D⟩
  case round =>
    obtain ⟨k, hk, rfl, hJk, Dk⟩ := hrel
    by_cases hlt : k < N
    · have Dc := Dk.cell
      gi_wp2_with (fail)
      refine ⟨trivial, ?_⟩
      refine (callsIn_wide.2 (ptr_any t lo m k hm (by omega) (by omega) _)).mono ?_
      rintro e w1 ⟨rfl, hg⟩
      have hJ1 := hJ _ _ _ none hJk hg.gb (fun r e => by cases e)
      have D1 := Dk.up hg
      clear Dc Dk hJk
      have hb : ∃ b, ptb lo m k = b := ⟨_, rfl⟩
      obtain ⟨b, hb⟩ := hb
      rw [hb]
      cases b
      · have hf := Lib.hid (fst_no hb)
        clear hb
        gi_wp2_with (fail)
        refine ⟨fun _ h => (by cases h), ?_⟩
        gi_wp2
        go_roundw
        case rel => exact ⟨k + 1, by omega, by go_num, by rw [hf.out]; exact hJ1, D1⟩
        case measure => simp [intOf]; omega
      · have hf := Lib.hid (fst_yes hb)
        have hp := fst_pre lo m (k + 1) N (by omega)
        have hlen : (fst lo m k).length < (fst lo m N).length := by
          have := hp.length_le
          rw [hf.out, List.length_append] at this
          simp at this
          omega
        have hp' : Hid (fst lo m k ++ [k] <+: fst lo m N) := Lib.hid (by rw [← hf.out]; exact hp)
        clear hp
        clear hb
        obtain ⟨fn, tmps, assign, body, hy, hR⟩ := hY (fst lo m k) k w1 hJ1 hlen
        clear hlen
        gi_wp2
        refine hR.mono ?_
        rintro e W3 (⟨rfl, hJ3, hk3⟩ | ⟨rfl, hJx3⟩)
        · gi_wp2
          go_roundw
          case rel => exact ⟨k + 1, by omega, by go_num, by rw [hf.out]; exact hJ3, hKp _ _ hk3 D1⟩
          case measure => simp [intOf]; omega
        · gi_wp2
          refine bodyPost_ret (results_none rfl _ _ _) rfl ?_
          exact ⟨⟨_, rfl⟩, .inr ⟨_, hp'.out, hJx3⟩⟩
    · obtain rfl : k = N := by omega
      gi_wp2
      go_end0
      exact ⟨⟨_, rfl⟩, .inl ⟨_, rfl, hJk⟩⟩

end Go.Proofs.YtanhhkdoejnpiaaGreat
/-! Of stage 4 -/
namespace Go.Proofs.YtanhhkdoejnpiaaGreat
open Go.ChangeShapes Go.WideShapes Go.ChangeAt Go.RowKit Go.Shelf
set_option linter.unusedVariables false
set_option linter.unusedSimpArgs false
attribute [local go_sem] Oper.semAt_some

set_option maxHeartbeats 400000 in
theorem seq_any (t l m : Int) (w : World) :
    Calls Tryz.prog 150 #[hdv t l m] w fun e w' => e = .returned (.func (.func 156) #[] #[.pointer (some ⟨w.heap.size, 0, none⟩)]) ∧ w' = w.alloc (.cells #[.int .i64 t, .int .i64 l, .int .u64 m] 69) := by
  go_enter Tryz.func150, Tryz.ntmps150
  go_wp2
  go_ret
  exact ⟨rfl, rfl⟩

theorem info_int : (Tryz.prog.info? 3).map (fun i => (i.zero, i.size, i.bytes)) = some (some (.int .i64 0), 1, 8) := by kernel_rfl

def pts (l m : Int) : List Nat := fst l m (Lib.bitLen m.toNat)
theorem pts_len (l m : Int) (hm : 0 ≤ m) (hm1 : m ≤ 65535) : (pts l m).length ≤ 16 := by
  have h1 := len_16 m.toNat (by omega)
  have h2 : (pts l m).length ≤ (List.range (Lib.bitLen m.toNat)).length := List.length_filter_le _ _
  rw [List.length_range] at h2
  omega

def Lst (w : World) (xs : List Nat) (e : Ending) (w' : World) : Prop := ∃ v, e = .returned v ∧ w'.ownsRow w.heap.size 3 1 v xs.length (xs.map fun x : Nat => Value.int .i64 x) ∧ Up w w'

/-- What a round keeps: what lay below, and the head's own box. -/
def KpP (n₀ Bn : Nat) (A B : World) : Prop := Below n₀ A B ∧ B.heap[Bn]? = A.heap[Bn]?
theorem KpP.t {n₀ Bn : Nat} {A B C : World} (h : KpP n₀ Bn A B) (k : KpP n₀ Bn B C) : KpP n₀ Bn A C := ⟨h.1.trans k.1, k.2.trans h.2⟩
theorem KpP.b {n₀ Bn : Nat} {w : World} (hn : n₀ ≤ w.heap.size) (hB : Bn < w.heap.size) (W : World) (l : Nat) (o o' : Obj) (hl : w.heap.size ≤ l) (h : W.heap[l]? = some o) (h1 : o.isCells = false) (h2 : o.isWalk = false) : KpP n₀ Bn W (W.putObj l o') :=
  ⟨belowK_b hn W l o o' hl h h1 h2, World.putObj_heap_other (by omega)⟩
theorem own_blkF {β : Type} (B g : Nat) (t : TypeId) (cs : Array Value) : OwnFrom (β := β) B (fun _ W => Blk W g t cs) := fun s W W' row hs hg hr =>
  hs.grown hg (fun e => by
    obtain ⟨-, o, ho, hc⟩ := hr g e.symm
    unfold Blk at hs
    rw [hs] at ho
    cases ho
    cases hc)
theorem own_row_ne {w : World} {base : Nat} {e t : TypeId} {size n g : Nat} {v : Value} {xs : List Value} {cs : Array Value} (h : w.ownsRow base e size v n xs) (hg : Blk w g t cs) (hne : e ≠ t) : some g ≠ v.ownBlock := by
  rcases h.2 with ⟨rfl, _⟩ | ⟨g', cap, cur, rfl, _, hh, _⟩
  · simp [Value.ownBlock]
  · intro he
    have : g = g' := by simpa [Value.ownBlock] using he
    subst this
    unfold Blk at hg
    rw [hg] at hh
    injection hh with hh
    injection hh with _ ht
    exact hne ht.symm

set_option maxRecDepth 100000 in
set_option maxHeartbeats 2000000 in
theorem ptrs_any (t lo m : Int) (hm : 0 ≤ m) (hm1 : m ≤ 65535) (w : World) : Calls Tryz.prog 138 #[hdv t lo m] w (Lst w (pts lo m)) := by
  have hlen := pts_len lo m hm hm1
  obtain ⟨i0, hi, hz0, hz1, hz2⟩ := info_parts info_int
  refine (callsIn_wide (n := 5)).1 ?_
  refine callsIn_of_wp_marks Tryz.func138 rfl trivial ?_ rfl
  simp only [Tryz.ntmps138, List.size_toArray, List.length_cons, List.length_nil, Nat.reduceAdd, Nat.reduceSub, Array.replicate_succ, Array.replicate_zero, List.push_toArray, List.append_toArray, List.nil_append, List.cons_append]
  gi_wp2_with (refine ⟨trivial, ?_⟩; gi_at_call 150; refine (callsIn_wide.2 (seq_any t lo m _)).mono ?_; rintro e w' ⟨rfl, rfl⟩)
  have bO := Boxed.new (w.alloc (.cells #[.int .i64 t, .int .i64 lo, .int .u64 m] 69)) 72 (.slice none 0 0)
  rw [World.size_alloc] at bO
  have bH := Blk.new ((w.alloc (.cells #[.int .i64 t, .int .i64 lo, .int .u64 m] 69)).alloc (.cells #[.slice none 0 0] 72)) 69 #[.int .i64 t, .int .i64 lo, .int .u64 m]
  rw [World.size_alloc, World.size_alloc] at bH
  have hB0 : Below w.heap.size w (((w.alloc (.cells #[.int .i64 t, .int .i64 lo, .int .u64 m] 69)).alloc (.cells #[.slice none 0 0] 72)).alloc (.cells #[.int .i64 t, .int .i64 lo, .int .u64 m] 69)) := (((Up.refl w).alloc _).alloc _).alloc _
  refine wpIn_rangeFunc_ownG rfl (by decide) (gf := 156) (lb := #[.pointer (some ⟨w.heap.size + 1 + 1, 0, none⟩)]) rfl trivial (enters_of Tryz.func156 (by kernel_rfl) rfl)
    (it_stops 4 (by decide) (w.heap.size + 1 + 1) t lo m hm hm1 _ (KpP w.heap.size (w.heap.size + 1 + 1)) (fun A B k h => k.2.trans h) bH) KpP.t (KpP.b (by simp; omega) (by simp)) (Below.refl _ _) (fun _ => rfl)
    (fun pre W => (∃ v, Boxed W (w.heap.size + 1) 72 v ∧ W.ownsRow w.heap.size 3 1 v pre.length (pre.map fun x : Nat => Value.int .i64 x) ∧ True) ∧ Blk W (w.heap.size + 1 + 1) 69 #[.int .i64 t, .int .i64 lo, .int .u64 m] ∧ Below w.heap.size w W)
    (fun _ _ _ => False)
    (OwnFrom.and (Own.from (holdsRow_own w.heap.size (w.heap.size + 1) 72 3 1 (fun pre : List Nat => pre.length) (fun pre : List Nat => pre.map fun x : Nat => Value.int .i64 x) (fun (_ : List Nat) (_ : Value) => True)) _) (OwnFrom.and (own_blkF _ _ _ _) (ownFrom_below (Nat.le_refl _) (by simp; omega))))
    (fun _ _ _ _ _ hs _ _ => hs)
    ⟨⟨_, bO.alloc _, World.ownsRow_nil _ _ _ _, trivial⟩, bH, hB0⟩
    (fun x => { tmps := #[hdv t lo m, .pointer (some ⟨w.heap.size, 0, none⟩), .slice none 0 0, .pointer (some ⟨w.heap.size + 1, 0, none⟩), .int .i64 x, .agg #[.int .i64 t, .int .i64 lo, .int .u64 m], .func (.func 156) #[] #[.pointer (some ⟨w.heap.size + 1 + 1, 0, none⟩)], .int .i64 x, undef, undef, undef, undef, undef], defers := [] }) ?assign ?body ?done ?stop
  case assign =>
    intro l x W K hK
    gi_wp2
    exact hK
  case body =>
    rintro l pre x W ⟨⟨v, hv, hrow, -⟩, hH, hB⟩ hlt
    have hlt : pre.length < 16 := Nat.lt_of_lt_of_le hlt hlen
    have hc := hv.cell
    gi_wp2_with (gi_at_builtin; refine wpListIn_append_own _ rfl _ _ 72 rfl w.heap.size 3 i0 (.int .i64 0) 1 8 Tryz.underlying72 hi hz0 hz1 hz2 rfl (by decide) _ _ _ rfl (hrow.alloc _) ⟨W.heap.size, 0, none⟩ 1 1 [.int .i64 x] rfl rfl (cell_one_new _ _ _) (by simp [Value.oneCell']) (by unfold maxLen; omega) (by omega) (by have := hB.size; simp; omega) ?_; intro v' w1 hown' hgrow _; obtain ⟨g', cap', rfl⟩ := ownsRow_succ hown'; obtain ⟨hv1, hv2, hr2, hk2, hb2⟩ := hv.appended (by decide) hrow hB.size (by omega) hown' hgrow; have hc1 := hv1.cell; have hf1 := hv1.frozen)
    have hH2 := ((hH.alloc _).grown hgrow (own_row_ne hrow hH (by decide))).far (p := ⟨w.heap.size + 1, 0, none⟩) (by simp) (.slice (some ⟨g', 0, none⟩) (pre.length + 1) cap')
    exact ⟨hk2.from _, ⟨hb2, hH2.trans hH.symm⟩, ⟨_, hv2, by simpa using hr2, trivial⟩, hH2, hB.trans hb2⟩
  case done =>
    rintro D ys W hD rfl ⟨⟨v, hv, hrow, -⟩, hH, hB⟩ hK
    have hc := hv.cell
    gi_wp2
    refine ⟨by simp, .inl ⟨_, _, rfl, run_takeDeferred hK, ?_⟩⟩
    exact ⟨_, results_tmp rfl _ _ _, v, rfl, ownsRow_putObj hrow _ hK rfl, hB.trans (belowK_b (w := w) (Nat.le_refl _) W D _ _ (by simp at hD; omega) hK rfl rfl)⟩
  case stop =>
    rintro D c pre W _ _ h _
    exact h.elim

end Go.Proofs.YtanhhkdoejnpiaaGreat
