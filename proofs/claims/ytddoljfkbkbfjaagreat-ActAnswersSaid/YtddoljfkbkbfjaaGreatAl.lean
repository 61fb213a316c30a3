/- Heads: contracts. -/
import Derived.Test.YtddoljfkbkbfjaaGreatAd
import Derived.IntWalk
import Derived.Laws.BitsAllLaws
import Derived.RangeFuncBox
import Derived.RangeFuncNested
import Derived.RangeFuncBound
import Derived.RangeFuncCalls
import Derived.RangeFuncLeaves
import Derived.Shelf.Abstract
import Derived.OwnWalkIn
import Derived.TacticsInMore
import Derived.LoopNIn
import Derived.LoopIn
import Derived.Maps.AppendAt
import Derived.Lib.Strings
import Derived.Lib.Slices
import Derived.Lib.Small
import Derived.Lib.Walk
import Derived.Lib.BitFns
/-! Of stage 5 -/
namespace Go.Proofs.YtddoljfkbkbfjaaGreat
open Go.ChangeShapes Go.WideShapes Go.ChangeAt Go.RowKit
set_option linter.unusedVariables false

set_option maxHeartbeats 400000 in
theorem rpow (n : Nat) (hn : n ≤ 62) (w : World) :
    Calls Tryz.prog 62 #[.int .i64 (n : Int)] w fun e w' => e = .returned (.int .u64 (2 ^ n)) ∧ w = w' := by
  go_enter Tryz.func62, Tryz.ntmps62
  go_wp2
  go_loop [3, 4] (fun v i => ∃ k : Nat, k ≤ n ∧ i = .int .i64 k ∧ v = .int .u64 (2 ^ k)) (fun _ i => n - (intOf i).toNat)
  case atStart => exact ⟨0, Nat.zero_le _, rfl, rfl⟩
  case round =>
    obtain ⟨k, hk, rfl, rfl⟩ := hrel
    obtain ⟨p1, p2⟩ := pow_le k (by omega)
    by_cases hlt : k < n
    · have hs := Lib.hid (pow_step k)
      have p3 := (pow_le (k + 1) (by omega)).2
      rw [hs.out] at p3
      go_wp2
      go_round
      case rel => exact ⟨k + 1, by omega, by go_num, by rw [hs.out]⟩
      case measure => simp [intOf]; omega
    · obtain rfl : k = n := by omega
      go_wp2
      go_ret
      exact ⟨rfl, rfl⟩
theorem quiet_same {P : Program} {f : FuncId} {args : Array Value} {w : World} {n : Nat} {v : Value}
    (h : Calls P f args (w.drewN n) fun e w' => e = .returned v ∧ w.drewN n = w') : Calls P f args (w.drewN n) fun e w'' => e = .returned v ∧ ∃ m, w'' = w.drewN m :=
  h.mono fun _ _ ⟨he, hm⟩ => ⟨he, n, hm.symm⟩
/-- The same, at a number that isn't told as a length. -/
theorem rpow_at (l : Int) (h0 : 0 ≤ l) (h1 : l ≤ 62) (w : World) :
    Calls Tryz.prog 62 #[.int .i64 l] w fun e w' => e = .returned (.int .u64 (2 ^ l.toNat)) ∧ w = w' := by
  have := rpow l.toNat (by omega) w
  rw [Int.toNat_of_nonneg h0] at this
  exact this
theorem div_pow_zero {m : Int} {k : Nat} (h : 0 ≤ m) : m / 2 ^ k = 0 ↔ m < 2 ^ k := by
  have hp : (0 : Int) < 2 ^ k := Int.pow_pos (by decide)
  constructor
  · intro e
    have := Int.lt_ediv_add_one_mul_self m hp
    rw [e] at this
    omega
  · exact fun q => Int.ediv_eq_zero_of_lt h q

set_option maxHeartbeats 400000 in
theorem rright_ok_o (t l m : Int) (hm : 0 ≤ m) (h0 : 1 ≤ t) (h1 : t ≤ 200) (h2 : 0 ≤ l) (h3 : l ≤ 16) (h4 : m / 2 ^ l.toNat = 0) (w : World) :
    Calls Tryz.prog 41 #[hdv t l m] w fun e w' => e = .returned (.int .i64 0) ∧ Up w w' := by
  have n1 : decide (2 ^ l.toNat ≤ m) = false := decide_eq_false (by have := (div_pow_zero hm).1 h4; omega)
  clear h4
  have t0 : (t != 255) = true := by simp; omega
  have t1 : (t == 255) = false := by simp; omega
  go_enter Tryz.func41, Tryz.ntmps41
  go_wp2
  go_quiet ((go_at_call 62; exact quiet_same (rpow_at l h2 (by omega) _)))
  go_wp2
  go_ret
  exact ⟨rfl, ((Up.refl _).alloc _).drewN _⟩

set_option maxHeartbeats 400000 in
theorem rright_ok_f (t l m : Int) (hm : 0 ≤ m) (h0 : t = 255) (h2 : 0 ≤ l) (h3 : l ≤ 65535) (h4 : m = 0) (w : World) :
    Calls Tryz.prog 41 #[hdv t l m] w fun e w' => e = .returned (.int .i64 0) ∧ Up w w' := by
  subst h0 h4
  go_enter Tryz.func41, Tryz.ntmps41
  go_wp2
  go_ret
  exact ⟨rfl, (Up.refl _).alloc _⟩

set_option maxHeartbeats 400000 in
theorem rright_lo (t l m : Int) (hm : 0 ≤ m) (h0 : t < 1) (w : World) :
    Calls Tryz.prog 41 #[hdv t l m] w fun e w' => e = .returned (.int .i64 1) ∧ Up w w' := by
  have t0 : (t != 255) = true := by simp; omega
  go_enter Tryz.func41, Tryz.ntmps41
  go_wp2
  go_ret
  exact ⟨rfl, (Up.refl _).alloc _⟩

set_option maxHeartbeats 400000 in
theorem rright_mid (t l m : Int) (hm : 0 ≤ m) (h0 : 200 < t) (h1 : t < 255) (w : World) :
    Calls Tryz.prog 41 #[hdv t l m] w fun e w' => e = .returned (.int .i64 1) ∧ Up w w' := by
  have t0 : (t != 255) = true := by simp; omega
  have d1 : decide (t < 1) = false := decide_eq_false (by omega)
  have d2 : decide (200 < t) = true := decide_eq_true h0
  go_enter Tryz.func41, Tryz.ntmps41
  go_wp2
  go_ret
  exact ⟨rfl, (Up.refl _).alloc _⟩

set_option maxHeartbeats 400000 in
theorem rright_hi (t l m : Int) (hm : 0 ≤ m) (h0 : 255 < t) (w : World) :
    Calls Tryz.prog 41 #[hdv t l m] w fun e w' => e = .returned (.int .i64 1) ∧ Up w w' := by
  have t0 : (t != 255) = true := by simp; omega
  have d1 : decide (t < 1) = false := decide_eq_false (by omega)
  have d2 : decide (200 < t) = true := decide_eq_true (by omega)
  go_enter Tryz.func41, Tryz.ntmps41
  go_wp2
  go_ret
  exact ⟨rfl, (Up.refl _).alloc _⟩

set_option maxHeartbeats 400000 in
theorem rright_neg_o (t l m : Int) (hm : 0 ≤ m) (h0 : 1 ≤ t) (h1 : t ≤ 200) (h2 : l < 0) (w : World) :
    Calls Tryz.prog 41 #[hdv t l m] w fun e w' => e = .returned (.int .i64 1) ∧ Up w w' := by
  have t0 : (t != 255) = true := by simp; omega
  have t1 : (t == 255) = false := by simp; omega
  go_enter Tryz.func41, Tryz.ntmps41
  go_wp2
  go_ret
  exact ⟨rfl, (Up.refl _).alloc _⟩

set_option maxHeartbeats 400000 in
theorem rright_neg_f (t l m : Int) (hm : 0 ≤ m) (h0 : t = 255) (h2 : l < 0) (w : World) :
    Calls Tryz.prog 41 #[hdv t l m] w fun e w' => e = .returned (.int .i64 1) ∧ Up w w' := by
  subst h0
  go_enter Tryz.func41, Tryz.ntmps41
  go_wp2
  go_ret
  exact ⟨rfl, (Up.refl _).alloc _⟩

set_option maxHeartbeats 400000 in
theorem rright_big_o (t l m : Int) (hm : 0 ≤ m) (h0 : 1 ≤ t) (h1 : t ≤ 200) (h2 : 16 < l) (w : World) :
    Calls Tryz.prog 41 #[hdv t l m] w fun e w' => e = .returned (.int .i64 3) ∧ Up w w' := by
  have d0 : 0 ≤ l := by omega
  have t0 : (t != 255) = true := by simp; omega
  have t1 : (t == 255) = false := by simp; omega
  go_enter Tryz.func41, Tryz.ntmps41
  go_wp2
  go_ret
  exact ⟨rfl, (Up.refl _).alloc _⟩

set_option maxHeartbeats 400000 in
theorem rright_big_f (t l m : Int) (hm : 0 ≤ m) (h0 : t = 255) (h2 : 65535 < l) (w : World) :
    Calls Tryz.prog 41 #[hdv t l m] w fun e w' => e = .returned (.int .i64 3) ∧ Up w w' := by
  subst h0
  have d0 : 0 ≤ l := by omega
  go_enter Tryz.func41, Tryz.ntmps41
  go_wp2
  go_ret
  exact ⟨rfl, (Up.refl _).alloc _⟩

set_option maxHeartbeats 400000 in
theorem rright_kind_o (t l m : Int) (hm : 0 ≤ m) (h0 : 1 ≤ t) (h1 : t ≤ 200) (h2 : 0 ≤ l) (h3 : l ≤ 16) (h4 : ¬ m / 2 ^ l.toNat = 0) (w : World) :
    Calls Tryz.prog 41 #[hdv t l m] w fun e w' => e = .returned (.int .i64 8) ∧ Up w w' := by
  have n1 : decide (2 ^ l.toNat ≤ m) = true := decide_eq_true (by have := mt (div_pow_zero hm).2 h4; omega)
  clear h4
  have t0 : (t != 255) = true := by simp; omega
  have t1 : (t == 255) = false := by simp; omega
  go_enter Tryz.func41, Tryz.ntmps41
  go_wp2
  go_quiet ((go_at_call 62; exact quiet_same (rpow_at l h2 (by omega) _)))
  go_wp2
  go_ret
  exact ⟨rfl, ((Up.refl _).alloc _).drewN _⟩

set_option maxHeartbeats 400000 in
theorem rright_kind_f (t l m : Int) (hm : 0 ≤ m) (h0 : t = 255) (h2 : 0 ≤ l) (h3 : l ≤ 65535) (h4 : ¬ m = 0) (w : World) :
    Calls Tryz.prog 41 #[hdv t l m] w fun e w' => e = .returned (.int .i64 8) ∧ Up w w' := by
  subst h0
  have n1 : (m != 0) = true := by simp [h4]
  clear h4
  go_enter Tryz.func41, Tryz.ntmps41
  go_wp2
  go_ret
  exact ⟨rfl, (Up.refl _).alloc _⟩

theorem rright_any (t l m : Int) (hm : 0 ≤ m) (w : World) :
    Calls Tryz.prog 41 #[hdv t l m] w fun e w' => e = .returned (.int .i64 (rte t l m)) ∧ Up w w' := by
  by_cases h : t < 1 ∨ (200 < t ∧ t ≠ 255) ∨ l < 0
  · rw [rte_1 h]
    by_cases c0 : t < 1
    · exact rright_lo t l m hm c0 w
    by_cases c1 : 255 < t
    · exact rright_hi t l m hm c1 w
    by_cases c2 : t = 255
    · exact rright_neg_f t l m hm c2 (by omega) w
    by_cases c3 : 200 < t
    · exact rright_mid t l m hm c3 (by omega) w
    · exact rright_neg_o t l m hm (by omega) (by omega) (by omega) w
  by_cases k : (t ≠ 255 ∧ 16 < l) ∨ 65535 < l
  · rw [rte_3 h k]
    by_cases c2 : t = 255
    · exact rright_big_f t l m hm c2 (by omega) w
    · exact rright_big_o t l m hm (by omega) (by omega) (by omega) w
  by_cases c2 : t = 255
  · by_cases c4 : m = 0
    · rw [rte_0 h k (fun q => q.elim (fun q => q.1 c2) (fun q => q.2 c4))]
      exact rright_ok_f t l m hm c2 (by omega) (by omega) c4 w
    · rw [rte_8 h k (.inr ⟨c2, c4⟩)]
      exact rright_kind_f t l m hm c2 (by omega) (by omega) c4 w
  · by_cases c4 : m / 2 ^ l.toNat = 0
    · rw [rte_0 h k (fun q => q.elim (fun q => q.2 c4) (fun q => c2 q.1))]
      exact rright_ok_o t l m hm (by omega) (by omega) (by omega) (by omega) c4 w
    · rw [rte_8 h k (.inl ⟨c2, c4⟩)]
      exact rright_kind_o t l m hm (by omega) (by omega) (by omega) (by omega) c4 w


end Go.Proofs.YtddoljfkbkbfjaaGreat
/-! Of stage 5 -/
namespace Go.Proofs.YtddoljfkbkbfjaaGreat
open Go.ChangeShapes Go.WideShapes Go.ChangeAt Go.RowKit
set_option linter.unusedVariables false
set_option linter.unusedSimpArgs false

theorem pow16 (l : Int) (h : l ≤ 16) : (2 : Int) ^ l.toNat ≤ 65536 := by
  have h1 : (2 : Nat) ^ l.toNat ≤ 2 ^ 16 := Nat.pow_le_pow_right (by decide) (by omega)
  have h3 : ((2 : Int) ^ l.toNat) = (((2 : Nat) ^ l.toNat : Nat) : Int) := by simp
  rw [h3]
  have h4 : (2 : Nat) ^ 16 = 65536 := by decide
  omega
/-- A right head's numbers are small. -/
theorem rte_small {t l m : Int} (hm : 0 ≤ m) (h : rte t l m = 0) : 1 ≤ t ∧ t ≤ 255 ∧ 0 ≤ l ∧ l ≤ 65535 ∧ m < 65536 ∧ ((t ≠ 255 ∧ t ≤ 200 ∧ l ≤ 16 ∧ m < 2 ^ l.toNat) ∨ (t = 255 ∧ m = 0)) := by
  unfold rte at h
  split at h
  · omega
  split at h
  · omega
  split at h
  · omega
  rename_i a b c
  by_cases c2 : t = 255
  · have : m = 0 := by omega
    exact ⟨by omega, by omega, by omega, by omega, by omega, .inr ⟨c2, this⟩⟩
  · have q : m / 2 ^ l.toNat = 0 := by
      by_cases q : m / 2 ^ l.toNat = 0
      · exact q
      · exact absurd (.inl ⟨c2, q⟩) c
    have q := (div_pow_zero hm).1 q
    have := pow16 l (by omega)
    exact ⟨by omega, by omega, by omega, by omega, by omega, .inl ⟨c2, by omega, by omega, q⟩⟩

/-- A head's word. -/
def wrd (t l m : Int) : Int := (t * 16777216 + l) * 4294967296 + m

theorem right_is (t l m e : Int) (h : rte t l m = e) (w : World) :
    Calls Tryz.prog 102 #[hdv t l m] w fun r w' => r = .returned (.int .i64 e) ∧ Up w w' := by
  have := right_any t l m w
  rw [h] at this
  exact this
theorem rright_is (t l m e : Int) (hm : 0 ≤ m) (h : rte t l m = e) (w : World) :
    Calls Tryz.prog 41 #[hdv t l m] w fun r w' => r = .returned (.int .i64 e) ∧ Up w w' := by
  have := rright_any t l m hm w
  rw [h] at this
  exact this

theorem or_mul (a b i k : Nat) (hm : k = 2 ^ i) (h : a < k) : (b * k) ||| a = b * k + a := by
  subst hm
  rw [← Nat.shiftLeft_eq, Nat.shiftLeft_add_eq_or_of_lt h]
theorem wrd_or (t l m : Int) (h0 : 0 ≤ t) (h1 : t ≤ 255) (h2 : 0 ≤ l) (h3 : l ≤ 65535) (h4 : 0 ≤ m) (h5 : m < 65536) :
    bits BinOp.or IntKind.u64 (bits BinOp.or IntKind.u64 (t * 72057594037927936) (l * 4294967296)) m = wrd t l m := by
  obtain ⟨a, rfl⟩ := Int.eq_ofNat_of_zero_le h0
  obtain ⟨b, rfl⟩ := Int.eq_ofNat_of_zero_le h2
  obtain ⟨c, rfl⟩ := Int.eq_ofNat_of_zero_le h4
  have e1 : ((a : Int) * 72057594037927936) = ((a * 72057594037927936 : Nat) : Int) := by omega
  have e2 : ((b : Int) * 4294967296) = ((b * 4294967296 : Nat) : Int) := by omega
  rw [e1, e2, u64_or_nat _ _ (by omega) (by omega), or_mul (b * 4294967296) a 56 72057594037927936 (by decide) (by omega)]
  have e3 : a * 72057594037927936 + b * 4294967296 = (a * 16777216 + b) * 4294967296 := by omega
  rw [e3, u64_or_nat _ _ (by omega) (by omega), or_mul c _ 32 4294967296 (by decide) (by omega)]
  unfold wrd
  omega

set_option maxHeartbeats 400000 in
theorem word_ok (t l m : Int) (hm : 0 ≤ m) (h : rte t l m = 0) (w : World) :
    Calls Tryz.prog 162 #[hdv t l m] w fun e w' => e = .returned (.tuple #[.int .u64 (wrd t l m), .int .i64 0]) ∧ Up w w' := by
  obtain ⟨h0, h1, h2, h3, h4, -⟩ := rte_small hm h
  have E := Lib.hid (wrd_or t l m (by omega) h1 h2 h3 hm h4)
  have R := Lib.hid (right_is t l m 0 h)
  have U := Lib.hid (Up.refl w)
  clear h
  go_enter Tryz.func162, Tryz.ntmps162
  go_wp2_with (fail)
  have D := Blk.new w 60 #[.int .i64 t, .int .i64 l, .int .u64 m]
  refine (R.out _).mono ?_
  rintro e w1 ⟨rfl, hg⟩
  replace D := D.up hg
  have Dc := D.cell
  have Df := D.frozen
  have Dl := D.lt
  go_wp2
  rw [E.out]
  go_ret2
  exact ⟨rfl, (U.out.alloc _).trans hg⟩

set_option maxHeartbeats 400000 in
theorem word_no (t l m x : Int) (h : rte t l m = x) (hx : x ≠ 0) (w : World) :
    Calls Tryz.prog 162 #[hdv t l m] w fun e w' => e = .returned (.tuple #[.int .u64 0, .int .i64 x]) ∧ Up w w' := by
  have R := Lib.hid (right_is t l m x h)
  have U := Lib.hid (Up.refl w)
  have n0 : (x != 0) = true := bne_iff_ne.mpr hx
  clear h hx
  go_enter Tryz.func162, Tryz.ntmps162
  go_wp2_with (fail)
  refine (R.out _).mono ?_
  rintro e w1 ⟨rfl, hg⟩
  go_wp2
  go_ret2
  exact ⟨rfl, (U.out.alloc _).trans hg⟩

theorem wrd_bounds (t l m : Int) (h0 : 0 ≤ t) (h1 : t ≤ 255) (h2 : 0 ≤ l) (h3 : l ≤ 65535) (h4 : 0 ≤ m) (h5 : m < 65536) : 0 ≤ wrd t l m ∧ wrd t l m ≤ 18446744073709551615 := by
  unfold wrd; omega

/-- What a head's word is, or that there is none. -/
def wov (t l m : Int) : Int := if rte t l m = 0 then wrd t l m else 0
theorem word_any (t l m : Int) (hm : 0 ≤ m) (w : World) :
    Calls Tryz.prog 162 #[hdv t l m] w fun e w' => e = .returned (.tuple #[.int .u64 (wov t l m), .int .i64 (rte t l m)]) ∧ Up w w' := by
  by_cases h : rte t l m = 0
  · rw [show wov t l m = wrd t l m from if_pos h, h]; exact word_ok t l m hm h w
  · rw [show wov t l m = 0 from if_neg h]; exact word_no t l m _ rfl h w
/-! ### A word's head -/
/-- The three parts of a word. -/
def tgw (a : Int) : Int := a / 72057594037927936
def lnw (a : Int) : Int := a / 4294967296 % 16777216
def mpw (a : Int) : Int := a % 4294967296
theorem mpw_nn (a : Int) : 0 ≤ mpw a := by unfold mpw; omega

theorem and24 (z : Int) (h0 : 0 ≤ z) (h1 : z < 18446744073709551616) : bits .and .u64 z 16777215 = z % 16777216 := by go_bits2

theorem rem24 (z : Int) (h0 : 0 ≤ z) (h1 : z < 18446744073709551616) : bits .and .u64 z 16777215 = z % 16777216 := by go_bits2
theorem w64_of (z : Int) (h0 : 0 ≤ z) (h1 : z ≤ 9223372036854775807) : wrap64 z = z := by unfold wrap64; omega

theorem Blk.new1 (w : World) (o : Obj) (t : TypeId) (cs : Array Value) : Blk ((w.alloc o).alloc (.cells cs t)) (w.heap.size + 1) t cs := by
  have h := Blk.new (w.alloc o) t cs
  simpa using h
set_option maxHeartbeats 400000 in
theorem take_ok (a t l m : Int) (h0 : 0 ≤ a) (h1 : a ≤ 18446744073709551615) (ht : tgw a = t) (hl : lnw a = l) (hm : mpw a = m) (h : rte t l m = 0) (w : World) :
    Calls Tryz.prog 111 #[.int .u64 a] w fun e w' => e = .returned (.tuple #[hdv t l m, .int .i64 0]) ∧ Up w w' := by
  have E1 := Lib.hid (show a / 72057594037927936 = t from ht)
  have E2 := Lib.hid (show bits .and .u64 (a / 4294967296) 16777215 = l from (and24 _ (by omega) (by omega)).trans hl)
  have E2w := Lib.hid (show wrap64 l = l from w64_of l (by rw [← hl]; unfold lnw; omega) (by rw [← hl]; unfold lnw; omega))
  have E3 := Lib.hid (show bits .and .u64 a 4294967295 = m from (and_low32 a h0 (by omega)).trans hm)
  have R := Lib.hid (right_is t l m 0 h)
  have U := Lib.hid (Up.refl w)
  clear ht hl hm h
  go_enter Tryz.func111, Tryz.ntmps111
  go_wp2_with (fail)
  rw [E2.out, E2w.out, E3.out, E1.out]
  have D := Blk.new1 w (.cells #[.int .i64 0, .int .i64 0, .int .u64 0] 60) 60 #[.int .i64 t, .int .i64 l, .int .u64 m]
  have D0 := (Blk.new w 60 #[.int .i64 0, .int .i64 0, .int .u64 0]).alloc (.cells #[.int .i64 t, .int .i64 l, .int .u64 m] 60)
  refine (R.out _).mono ?_
  rintro e w1 ⟨rfl, hg⟩
  replace D := D.up hg
  replace D0 := D0.up hg
  have Dc := D.cell
  have Df := D.frozen
  have Dl := D.lt
  have D0c := D0.cell
  have D0f := D0.frozen
  have D0l := D0.lt
  go_wp2
  refine bodyPost_ret (v := .tuple #[hdv t l m, .int .i64 0]) (by simp [results, Tryz.results111, go_sem, D0c, D0l]) rfl ⟨rfl, ?_⟩
  exact (((U.out.alloc _).alloc _).trans hg).set3 (Nat.le_refl _) _ _ _

set_option maxHeartbeats 400000 in
theorem take_no (a t l m x : Int) (h0 : 0 ≤ a) (h1 : a ≤ 18446744073709551615) (ht : tgw a = t) (hl : lnw a = l) (hm : mpw a = m) (h : rte t l m = x) (hx : x ≠ 0) (w : World) :
    Calls Tryz.prog 111 #[.int .u64 a] w fun e w' => e = .returned (.tuple #[hdv 0 0 0, .int .i64 10]) ∧ Up w w' := by
  have E1 := Lib.hid (show a / 72057594037927936 = t from ht)
  have E2 := Lib.hid (show bits .and .u64 (a / 4294967296) 16777215 = l from (and24 _ (by omega) (by omega)).trans hl)
  have E2w := Lib.hid (show wrap64 l = l from w64_of l (by rw [← hl]; unfold lnw; omega) (by rw [← hl]; unfold lnw; omega))
  have E3 := Lib.hid (show bits .and .u64 a 4294967295 = m from (and_low32 a h0 (by omega)).trans hm)
  have R := Lib.hid (right_is t l m x h)
  have U := Lib.hid (Up.refl w)
  have n0 : (x != 0) = true := bne_iff_ne.mpr hx
  clear ht hl hm h hx
  go_enter Tryz.func111, Tryz.ntmps111
  go_wp2_with (fail)
  rw [E2.out, E2w.out, E3.out, E1.out]
  have D0 := (Blk.new w 60 #[.int .i64 0, .int .i64 0, .int .u64 0]).alloc (.cells #[.int .i64 t, .int .i64 l, .int .u64 m] 60)
  refine (R.out _).mono ?_
  rintro e w1 ⟨rfl, hg⟩
  replace D0 := D0.up hg
  have D0c := D0.cell
  have D0f := D0.frozen
  have D0l := D0.lt
  go_wp2
  refine bodyPost_ret (v := .tuple #[hdv 0 0 0, .int .i64 10]) (by simp [results, Tryz.results111, go_sem, D0c, D0l]) rfl ⟨rfl, ?_⟩
  exact (((U.out.alloc _).alloc _).trans hg).set3 (Nat.le_refl _) _ _ _

set_option maxHeartbeats 400000 in
theorem rtake_ok (a t l m : Int) (h0 : 0 ≤ a) (h1 : a ≤ 18446744073709551615) (ht : tgw a = t) (hl : lnw a = l) (hm : mpw a = m) (h : rte t l m = 0) (w : World) :
    Calls Tryz.prog 58 #[.int .u64 a] w fun e w' => e = .returned (.tuple #[hdv t l m, .int .i64 0]) ∧ Up w w' := by
  have E1 := Lib.hid (show a / 72057594037927936 = t from ht)
  have E2 := Lib.hid (show a / 4294967296 % 16777216 = l from hl)
  have E3 := Lib.hid (show a % 4294967296 = m from hm)
  have R := Lib.hid (rright_is t l m 0 (by rw [← hm]; exact mpw_nn a) h)
  have U := Lib.hid (Up.refl w)
  clear ht hl hm h
  go_enter Tryz.func58, Tryz.ntmps58
  go_wp2_with (fail)
  rw [E2.out, E3.out, E1.out]
  have D := Blk.new1 w (.cells #[.int .i64 0, .int .i64 0, .int .u64 0] 60) 60 #[.int .i64 t, .int .i64 l, .int .u64 m]
  have D0 := (Blk.new w 60 #[.int .i64 0, .int .i64 0, .int .u64 0]).alloc (.cells #[.int .i64 t, .int .i64 l, .int .u64 m] 60)
  refine (R.out _).mono ?_
  rintro e w1 ⟨rfl, hg⟩
  replace D := D.up hg
  replace D0 := D0.up hg
  have Dc := D.cell
  have Df := D.frozen
  have Dl := D.lt
  have D0c := D0.cell
  have D0f := D0.frozen
  have D0l := D0.lt
  go_wp2
  refine bodyPost_ret (v := .tuple #[hdv t l m, .int .i64 0]) (by simp [results, Tryz.results58, go_sem, D0c, D0l]) rfl ⟨rfl, ?_⟩
  exact (((U.out.alloc _).alloc _).trans hg).set3 (Nat.le_refl _) _ _ _

set_option maxHeartbeats 400000 in
theorem rtake_no (a t l m x : Int) (h0 : 0 ≤ a) (h1 : a ≤ 18446744073709551615) (ht : tgw a = t) (hl : lnw a = l) (hm : mpw a = m) (h : rte t l m = x) (hx : x ≠ 0) (w : World) :
    Calls Tryz.prog 58 #[.int .u64 a] w fun e w' => e = .returned (.tuple #[hdv 0 0 0, .int .i64 10]) ∧ Up w w' := by
  have E1 := Lib.hid (show a / 72057594037927936 = t from ht)
  have E2 := Lib.hid (show a / 4294967296 % 16777216 = l from hl)
  have E3 := Lib.hid (show a % 4294967296 = m from hm)
  have R := Lib.hid (rright_is t l m x (by rw [← hm]; exact mpw_nn a) h)
  have U := Lib.hid (Up.refl w)
  have n0 : (x != 0) = true := bne_iff_ne.mpr hx
  clear ht hl hm h hx
  go_enter Tryz.func58, Tryz.ntmps58
  go_wp2_with (fail)
  rw [E2.out, E3.out, E1.out]
  have D0 := (Blk.new w 60 #[.int .i64 0, .int .i64 0, .int .u64 0]).alloc (.cells #[.int .i64 t, .int .i64 l, .int .u64 m] 60)
  refine (R.out _).mono ?_
  rintro e w1 ⟨rfl, hg⟩
  replace D0 := D0.up hg
  have D0c := D0.cell
  have D0f := D0.frozen
  have D0l := D0.lt
  go_wp2
  refine bodyPost_ret (v := .tuple #[hdv 0 0 0, .int .i64 10]) (by simp [results, Tryz.results58, go_sem, D0c, D0l]) rfl ⟨rfl, ?_⟩
  exact (((U.out.alloc _).alloc _).trans hg).set3 (Nat.le_refl _) _ _ _

/-- Is a word a right head's? -/
def tkb (a : Int) : Prop := rte (tgw a) (lnw a) (mpw a) = 0
instance (a : Int) : Decidable (tkb a) := inferInstanceAs (Decidable (_ = _))
def tkt (a : Int) : Int := if tkb a then tgw a else 0
def tkl (a : Int) : Int := if tkb a then lnw a else 0
def tkm (a : Int) : Int := if tkb a then mpw a else 0
def tke (a : Int) : Int := if tkb a then 0 else 10
theorem take_any (a : Int) (h0 : 0 ≤ a) (h1 : a ≤ 18446744073709551615) (w : World) :
    Calls Tryz.prog 111 #[.int .u64 a] w fun e w' => e = .returned (.tuple #[hdv (tkt a) (tkl a) (tkm a), .int .i64 (tke a)]) ∧ Up w w' := by
  by_cases h : tkb a
  · rw [show tkt a = _ from if_pos h, show tkl a = _ from if_pos h, show tkm a = _ from if_pos h, show tke a = _ from if_pos h]
    exact take_ok a _ _ _ h0 h1 rfl rfl rfl h w
  · rw [show tkt a = _ from if_neg h, show tkl a = _ from if_neg h, show tkm a = _ from if_neg h, show tke a = _ from if_neg h]
    exact take_no a _ _ _ _ h0 h1 rfl rfl rfl rfl h w
theorem rtake_any (a : Int) (h0 : 0 ≤ a) (h1 : a ≤ 18446744073709551615) (w : World) :
    Calls Tryz.prog 58 #[.int .u64 a] w fun e w' => e = .returned (.tuple #[hdv (tkt a) (tkl a) (tkm a), .int .i64 (tke a)]) ∧ Up w w' := by
  by_cases h : tkb a
  · rw [show tkt a = _ from if_pos h, show tkl a = _ from if_pos h, show tkm a = _ from if_pos h, show tke a = _ from if_pos h]
    exact rtake_ok a _ _ _ h0 h1 rfl rfl rfl h w
  · rw [show tkt a = _ from if_neg h, show tkl a = _ from if_neg h, show tkm a = _ from if_neg h, show tke a = _ from if_neg h]
    exact rtake_no a _ _ _ _ h0 h1 rfl rfl rfl rfl h w

end Go.Proofs.YtddoljfkbkbfjaaGreat
/-! Of stage 5 -/
namespace Go.Proofs.YtddoljfkbkbfjaaGreat
open Go.ChangeShapes Go.WideShapes Go.ChangeAt Go.RowKit
set_option linter.unusedVariables false
set_option linter.unusedSimpArgs false

set_option maxHeartbeats 400000 in
theorem words_f (t l m : Int) (ht : t = 255) (h0 : 0 ≤ l) (h1 : l ≤ 65535) (w : World) :
    Calls Tryz.prog 129 #[hdv t l m] w fun e w' => e = .returned (.int .i64 (l + 1)) ∧ Up w w' := by
  subst ht
  have U := Lib.hid (Up.refl w)
  go_enter Tryz.func129, Tryz.ntmps129
  go_wp2
  go_ret
  exact ⟨rfl, (((U.out.alloc _).alloc _).alloc _).alloc _⟩

set_option maxHeartbeats 400000 in
theorem words_o (t l m : Int) (ht : t < 255) (h0 : 0 ≤ l) (h1 : l ≤ 16) (w : World) :
    Calls Tryz.prog 129 #[hdv t l m] w fun e w' => e = .returned (.int .i64 (2 + l)) ∧ Up w w' := by
  have d1 : decide (255 ≤ t) = false := decide_eq_false (by omega)
  have U := Lib.hid (Up.refl w)
  go_enter Tryz.func129, Tryz.ntmps129
  go_wp2
  go_ret
  exact ⟨rfl, (U.out.alloc _).alloc _⟩

/-- Is a field a pointer? -/
def ptb (l m i : Int) : Bool := decide (0 ≤ i) && (decide (i < l) && (m / 2 ^ i.toNat % 2 == 1))
theorem and1 (z : Int) (h0 : 0 ≤ z) (h1 : z < 18446744073709551616) : bits .and .u64 z 1 = z % 2 := by go_bits2

set_option maxHeartbeats 400000 in
theorem ptr_any (t l m i : Int) (hm : 0 ≤ m) (hm1 : m ≤ 18446744073709551615) (h1 : i ≤ 62) (w : World) :
    Calls Tryz.prog 121 #[hdv t l m, .int .i64 i] w fun e w' => e = .returned (.bool (ptb l m i)) ∧ Up w w' := by
  have U := Lib.hid (Up.refl w)
  by_cases c0 : 0 ≤ i
  · by_cases c1 : i < l
    · have hd : 0 ≤ m / 2 ^ i.toNat ∧ m / 2 ^ i.toNat ≤ m := ⟨Int.ediv_nonneg hm (by have := (pow_le i.toNat (by omega)).1; omega), Int.ediv_le_self _ hm⟩
      have E : (bits BinOp.and IntKind.u64 (m / 2 ^ i.toNat) 1 == 1) = ptb l m i := by
        rw [and1 _ hd.1 (by omega)]
        unfold ptb
        rw [decide_eq_true c0, decide_eq_true c1]
        rfl
      clear hd
      generalize ptb l m i = b at E
      go_enter Tryz.func121, Tryz.ntmps121
      go_wp2
      go_ret
      exact ⟨rfl, (Up.refl _).alloc _⟩
    · have E : ptb l m i = false := by unfold ptb; rw [decide_eq_false c1, Bool.false_and, Bool.and_false]
      rw [E]
      clear E
      have d1 : decide (i < l) = false := decide_eq_false c1
      go_enter Tryz.func121, Tryz.ntmps121
      go_wp2
      go_ret
      exact ⟨rfl, (Up.refl _).alloc _⟩
  · have E : ptb l m i = false := by unfold ptb; rw [decide_eq_false c0, Bool.false_and]
    rw [E]
    clear E
    have d0 : decide (0 ≤ i) = false := decide_eq_false c0
    go_enter Tryz.func121, Tryz.ntmps121
    go_wp2
    go_ret
    exact ⟨rfl, (Up.refl _).alloc _⟩

end Go.Proofs.YtddoljfkbkbfjaaGreat
/-! Of stage 4 -/
namespace Go.Proofs.YtddoljfkbkbfjaaGreat
open Go.ChangeShapes Go.WideShapes Go.ChangeAt Go.RowKit
set_option linter.unusedVariables false
set_option linter.unusedSimpArgs false

theorem tab_at' : ∀ n : Fin 256, (Lib.len8 (n.val : Int)) = (Lib.bitLen n.val : Int) := Lib.len8_eq
theorem tab_at (x : Int) (h0 : 0 ≤ x) (h1 : x ≤ 255) (h : x.toNat < Lib.len8tab.size) : ((Lib.len8tab[x.toNat]'h).toNat : Int) = (Lib.bitLen x.toNat : Int) := by
  have e := Lib.len8_of x h0 h1
  unfold Lib.len8 at e
  rw [ByteArray.getElem?_lt' _ _ h] at e
  exact e
theorem w64_nat (n : Nat) (h : n ≤ 1000) : wrap64 (n : Int) = n := by unfold wrap64; omega

theorem len_16 (n : Nat) (h : n ≤ 65535) : Lib.bitLen n ≤ 16 := Lib.bitLenAux_le 64 n 16 (by omega)
theorem len_lt' : ∀ (f x : Nat), x < 2 ^ f → x < 2 ^ Lib.bitLenAux f x
  | 0, x, h => by simpa [Lib.bitLenAux] using h
  | f + 1, x, h => by
    unfold Lib.bitLenAux
    split
    · subst_vars; simp
    · have := len_lt' f (x / 2) (by rw [Nat.pow_succ] at h; omega)
      rw [Nat.pow_add]
      omega
theorem len_lt (n : Nat) (h : n ≤ 65535) : n < 2 ^ Lib.bitLen n := len_lt' 64 n (by omega)

end Go.Proofs.YtddoljfkbkbfjaaGreat
/-! Of stage 4 -/
namespace Go.Proofs.YtddoljfkbkbfjaaGreat
open Go.ChangeShapes Go.WideShapes Go.ChangeAt Go.RowKit Go.Shelf
set_option linter.unusedVariables false
set_option linter.unusedSimpArgs false
attribute [local go_sem] Oper.semAt_some

theorem Up.gb {a b : World} (h : Up a b) : a.grownBy b none := ⟨h.os, h.tape, h.output, h.size, fun i hi _ => h.block i hi⟩
theorem Up.bel {a b : World} {n : Nat} (h : Up a b) (hn : n ≤ a.heap.size) : Below n a b := Below.mono h hn

/-- The first fields that are pointers. -/
def fst (l m : Int) (k : Nat) : List Nat := (List.range k).filter fun i => ptb l m i
theorem fst_yes {l m : Int} {k : Nat} (h : ptb l m k = true) : fst l m (k + 1) = fst l m k ++ [k] := by
  simp [fst, List.range_succ, h]
theorem fst_no {l m : Int} {k : Nat} (h : ptb l m k = false) : fst l m (k + 1) = fst l m k := by
  simp [fst, List.range_succ, h]
theorem fst_pre (l m : Int) (k : Nat) : ∀ n, k ≤ n → fst l m k <+: fst l m n := by
  intro n h
  obtain ⟨d, rfl⟩ := Nat.le.dest h
  induction d with
  | zero => exact List.prefix_rfl
  | succ d ih =>
    refine (ih (by omega)).trans ?_
    rw [← Nat.add_assoc]
    cases hb : ptb l m ((k + d : Nat) : Int)
    · rw [fst_no hb]
      exact List.prefix_rfl
    · rw [fst_yes hb]
      exact List.prefix_append _ _


end Go.Proofs.YtddoljfkbkbfjaaGreat
/-! Of stage 4 -/
namespace Go.Proofs.YtddoljfkbkbfjaaGreat
open Go.ChangeShapes Go.WideShapes Go.ChangeAt Go.RowKit Go.Shelf
set_option linter.unusedVariables false
set_option linter.unusedSimpArgs false
attribute [local go_sem] Oper.semAt_some

theorem info_int : (Tryz.prog.info? 3).map (fun i => (i.zero, i.size, i.bytes)) = some (some (.int .i64 0), 1, 8) := by kernel_rfl

def pts (l m : Int) : List Nat := fst l m (Lib.bitLen m.toNat)
theorem pts_len (l m : Int) (hm : 0 ≤ m) (hm1 : m ≤ 65535) : (pts l m).length ≤ 16 := by
  have h1 := len_16 m.toNat (by omega)
  have h2 : (pts l m).length ≤ (List.range (Lib.bitLen m.toNat)).length := List.length_filter_le _ _
  rw [List.length_range] at h2
  omega

def Lst (w : World) (xs : List Nat) (e : Ending) (w' : World) : Prop := ∃ v, e = .returned v ∧ w'.ownsRow w.heap.size 3 1 v xs.length (xs.map fun x : Nat => Value.int .i64 x) ∧ Up w w'

/-- What a round keeps: what lay below, and the head's own box. -/
def KpP (n₀ Bn : Nat) (A B : World) : Prop := Below n₀ A B ∧ B.heap[Bn]? = A.heap[Bn]?
theorem KpP.t {n₀ Bn : Nat} {A B C : World} (h : KpP n₀ Bn A B) (k : KpP n₀ Bn B C) : KpP n₀ Bn A C := ⟨h.1.trans k.1, k.2.trans h.2⟩
theorem KpP.b {n₀ Bn : Nat} {w : World} (hn : n₀ ≤ w.heap.size) (hB : Bn < w.heap.size) (W : World) (l : Nat) (o o' : Obj) (hl : w.heap.size ≤ l) (h : W.heap[l]? = some o) (h1 : o.isCells = false) (h2 : o.isWalk = false) : KpP n₀ Bn W (W.putObj l o') :=
  ⟨belowK_b hn W l o o' hl h h1 h2, World.putObj_heap_other (by omega)⟩
theorem own_blkF {β : Type} (B g : Nat) (t : TypeId) (cs : Array Value) : OwnFrom (β := β) B (fun _ W => Blk W g t cs) := fun s W W' row hs hg hr =>
  hs.grown hg (fun e => by
    obtain ⟨-, o, ho, hc⟩ := hr g e.symm
    unfold Blk at hs
    rw [hs] at ho
    cases ho
    cases hc)
theorem own_row_ne {w : World} {base : Nat} {e t : TypeId} {size n g : Nat} {v : Value} {xs : List Value} {cs : Array Value} (h : w.ownsRow base e size v n xs) (hg : Blk w g t cs) (hne : e ≠ t) : some g ≠ v.ownBlock := by
  rcases h.2 with ⟨rfl, _⟩ | ⟨g', cap, cur, rfl, _, hh, _⟩
  · simp [Value.ownBlock]
  · intro he
    have : g = g' := by simpa [Value.ownBlock] using he
    subst this
    unfold Blk at hg
    rw [hg] at hh
    injection hh with hh
    injection hh with _ ht
    exact hne ht.symm


end Go.Proofs.YtddoljfkbkbfjaaGreat
