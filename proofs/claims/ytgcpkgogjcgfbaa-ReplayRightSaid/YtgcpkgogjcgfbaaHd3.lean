/- A head's word, and a word's head (head.Word, head.Take, and the document's own answers): contracts. -/
import Derived.Test.YtgcpkgogjcgfbaaHd2
import Derived.Laws.BitsAllLaws
namespace Go.Proofs.Ytgcpkgogjcgfbaa
open Go.ChangeShapes Go.WideShapes Go.ChangeAt Go.RowKit
set_option linter.unusedVariables false
set_option linter.unusedSimpArgs false

theorem pow16 (l : Int) (h : l ≤ 16) : (2 : Int) ^ l.toNat ≤ 65536 := by
  have h1 : (2 : Nat) ^ l.toNat ≤ 2 ^ 16 := Nat.pow_le_pow_right (by decide) (by omega)
  have h3 : ((2 : Int) ^ l.toNat) = (((2 : Nat) ^ l.toNat : Nat) : Int) := by simp
  rw [h3]
  have h4 : (2 : Nat) ^ 16 = 65536 := by decide
  omega
/-- A right head's numbers are small. -/
theorem rte_small {t l m : Int} (hm : 0 ≤ m) (h : rte t l m = 0) : 1 ≤ t ∧ t ≤ 255 ∧ 0 ≤ l ∧ l ≤ 65535 ∧ m < 65536 ∧ ((t ≠ 255 ∧ t ≤ 200 ∧ l ≤ 16 ∧ m < 2 ^ l.toNat) ∨ (t = 255 ∧ m = 0)) := by
  unfold rte at h
  split at h
  · omega
  split at h
  · omega
  split at h
  · omega
  rename_i a b c
  by_cases c2 : t = 255
  · have : m = 0 := by omega
    exact ⟨by omega, by omega, by omega, by omega, by omega, .inr ⟨c2, this⟩⟩
  · have q : m / 2 ^ l.toNat = 0 := by
      by_cases q : m / 2 ^ l.toNat = 0
      · exact q
      · exact absurd (.inl ⟨c2, q⟩) c
    have q := (div_pow_zero hm).1 q
    have := pow16 l (by omega)
    exact ⟨by omega, by omega, by omega, by omega, by omega, .inl ⟨c2, by omega, by omega, q⟩⟩

/-- A head's word. -/
def wrd (t l m : Int) : Int := (t * 16777216 + l) * 4294967296 + m

theorem right_is (t l m e : Int) (h : rte t l m = e) (w : World) :
    Calls Try.prog 96 #[hdv t l m] w fun r w' => r = .returned (.int .i64 e) ∧ Up w w' := by
  have := right_any t l m w
  rw [h] at this
  exact this
theorem rright_is (t l m e : Int) (hm : 0 ≤ m) (h : rte t l m = e) (w : World) :
    Calls Try.prog 71 #[hdv t l m] w fun r w' => r = .returned (.int .i64 e) ∧ Up w w' := by
  have := rright_any t l m hm w
  rw [h] at this
  exact this

theorem or_mul (a b i k : Nat) (hm : k = 2 ^ i) (h : a < k) : (b * k) ||| a = b * k + a := by
  subst hm
  rw [← Nat.shiftLeft_eq, Nat.shiftLeft_add_eq_or_of_lt h]
theorem wrd_or (t l m : Int) (h0 : 0 ≤ t) (h1 : t ≤ 255) (h2 : 0 ≤ l) (h3 : l ≤ 65535) (h4 : 0 ≤ m) (h5 : m < 65536) :
    bits BinOp.or IntKind.u64 (bits BinOp.or IntKind.u64 (t * 72057594037927936) (l * 4294967296)) m = wrd t l m := by
  obtain ⟨a, rfl⟩ := Int.eq_ofNat_of_zero_le h0
  obtain ⟨b, rfl⟩ := Int.eq_ofNat_of_zero_le h2
  obtain ⟨c, rfl⟩ := Int.eq_ofNat_of_zero_le h4
  have e1 : ((a : Int) * 72057594037927936) = ((a * 72057594037927936 : Nat) : Int) := by omega
  have e2 : ((b : Int) * 4294967296) = ((b * 4294967296 : Nat) : Int) := by omega
  rw [e1, e2, u64_or_nat _ _ (by omega) (by omega), or_mul (b * 4294967296) a 56 72057594037927936 (by decide) (by omega)]
  have e3 : a * 72057594037927936 + b * 4294967296 = (a * 16777216 + b) * 4294967296 := by omega
  rw [e3, u64_or_nat _ _ (by omega) (by omega), or_mul c _ 32 4294967296 (by decide) (by omega)]
  unfold wrd
  omega

theorem wrd_bounds (t l m : Int) (h0 : 0 ≤ t) (h1 : t ≤ 255) (h2 : 0 ≤ l) (h3 : l ≤ 65535) (h4 : 0 ≤ m) (h5 : m < 65536) : 0 ≤ wrd t l m ∧ wrd t l m ≤ 18446744073709551615 := by
  unfold wrd; omega

set_option maxHeartbeats 400000 in
theorem rword_ok (t l m : Int) (hm : 0 ≤ m) (h : rte t l m = 0) (w : World) :
    Calls Try.prog 47 #[hdv t l m] w fun e w' => e = .returned (.tuple #[.int .u64 (wrd t l m), .int .i64 0]) ∧ Up w w' := by
  obtain ⟨h0, h1, h2, h3, h4, -⟩ := rte_small hm h
  have R := Lib.hid (rright_is t l m 0 hm h)
  have U := Lib.hid (Up.refl w)
  clear h
  go_enter Try.func47, Try.ntmps47
  go_wp2_with (fail)
  have D := Blk.new w 55 #[.int .i64 t, .int .i64 l, .int .u64 m]
  refine (R.out _).mono ?_
  rintro e w1 ⟨rfl, hg⟩
  replace D := D.up hg
  have Dc := D.cell
  have Df := D.frozen
  have Dl := D.lt
  go_wp2
  go_ret2
  exact ⟨rfl, (U.out.alloc _).trans hg⟩

set_option maxHeartbeats 400000 in
theorem rword_no (t l m x : Int) (hm : 0 ≤ m) (h : rte t l m = x) (hx : x ≠ 0) (w : World) :
    Calls Try.prog 47 #[hdv t l m] w fun e w' => e = .returned (.tuple #[.int .u64 0, .int .i64 x]) ∧ Up w w' := by
  have R := Lib.hid (rright_is t l m x hm h)
  have U := Lib.hid (Up.refl w)
  have n0 : (x != 0) = true := bne_iff_ne.mpr hx
  clear h hx
  go_enter Try.func47, Try.ntmps47
  go_wp2_with (fail)
  refine (R.out _).mono ?_
  rintro e w1 ⟨rfl, hg⟩
  go_wp2
  go_ret2
  exact ⟨rfl, (U.out.alloc _).trans hg⟩

/-- What a head's word is, or that there is none. -/
def wov (t l m : Int) : Int := if rte t l m = 0 then wrd t l m else 0
theorem rword_any (t l m : Int) (hm : 0 ≤ m) (w : World) :
    Calls Try.prog 47 #[hdv t l m] w fun e w' => e = .returned (.tuple #[.int .u64 (wov t l m), .int .i64 (rte t l m)]) ∧ Up w w' := by
  by_cases h : rte t l m = 0
  · rw [show wov t l m = wrd t l m from if_pos h, h]; exact rword_ok t l m hm h w
  · rw [show wov t l m = 0 from if_neg h]; exact rword_no t l m _ hm rfl h w

/-! ### A word's head -/
/-- The three parts of a word. -/
def tgw (a : Int) : Int := a / 72057594037927936
def lnw (a : Int) : Int := a / 4294967296 % 16777216
def mpw (a : Int) : Int := a % 4294967296
theorem mpw_nn (a : Int) : 0 ≤ mpw a := by unfold mpw; omega

theorem and24 (z : Int) (h0 : 0 ≤ z) (h1 : z < 18446744073709551616) : bits .and .u64 z 16777215 = z % 16777216 := by go_bits2

theorem rem24 (z : Int) (h0 : 0 ≤ z) (h1 : z < 18446744073709551616) : bits .and .u64 z 16777215 = z % 16777216 := by go_bits2
theorem w64_of (z : Int) (h0 : 0 ≤ z) (h1 : z ≤ 9223372036854775807) : wrap64 z = z := by unfold wrap64; omega

theorem Blk.new1 (w : World) (o : Obj) (t : TypeId) (cs : Array Value) : Blk ((w.alloc o).alloc (.cells cs t)) (w.heap.size + 1) t cs := by
  have h := Blk.new (w.alloc o) t cs
  simpa using h
set_option maxHeartbeats 400000 in
theorem take_ok (a t l m : Int) (h0 : 0 ≤ a) (h1 : a ≤ 18446744073709551615) (ht : tgw a = t) (hl : lnw a = l) (hm : mpw a = m) (h : rte t l m = 0) (w : World) :
    Calls Try.prog 76 #[.int .u64 a] w fun e w' => e = .returned (.tuple #[hdv t l m, .int .i64 0]) ∧ Up w w' := by
  have E1 := Lib.hid (show a / 72057594037927936 = t from ht)
  have E2 := Lib.hid (show bits .and .u64 (a / 4294967296) 16777215 = l from (and24 _ (by omega) (by omega)).trans hl)
  have E2w := Lib.hid (show wrap64 l = l from w64_of l (by rw [← hl]; unfold lnw; omega) (by rw [← hl]; unfold lnw; omega))
  have E3 := Lib.hid (show bits .and .u64 a 4294967295 = m from (and_low32 a h0 (by omega)).trans hm)
  have R := Lib.hid (right_is t l m 0 h)
  have U := Lib.hid (Up.refl w)
  clear ht hl hm h
  go_enter Try.func76, Try.ntmps76
  go_wp2_with (fail)
  rw [E2.out, E2w.out, E3.out, E1.out]
  have D := Blk.new1 w (.cells #[.int .i64 0, .int .i64 0, .int .u64 0] 55) 55 #[.int .i64 t, .int .i64 l, .int .u64 m]
  have D0 := (Blk.new w 55 #[.int .i64 0, .int .i64 0, .int .u64 0]).alloc (.cells #[.int .i64 t, .int .i64 l, .int .u64 m] 55)
  refine (R.out _).mono ?_
  rintro e w1 ⟨rfl, hg⟩
  replace D := D.up hg
  replace D0 := D0.up hg
  have Dc := D.cell
  have Df := D.frozen
  have Dl := D.lt
  have D0c := D0.cell
  have D0f := D0.frozen
  have D0l := D0.lt
  go_wp2
  refine bodyPost_ret (v := .tuple #[hdv t l m, .int .i64 0]) (by simp [results, Try.results76, go_sem, D0c, D0l]) rfl ⟨rfl, ?_⟩
  exact (((U.out.alloc _).alloc _).trans hg).set3 (Nat.le_refl _) _ _ _

set_option maxHeartbeats 400000 in
theorem take_no (a t l m x : Int) (h0 : 0 ≤ a) (h1 : a ≤ 18446744073709551615) (ht : tgw a = t) (hl : lnw a = l) (hm : mpw a = m) (h : rte t l m = x) (hx : x ≠ 0) (w : World) :
    Calls Try.prog 76 #[.int .u64 a] w fun e w' => e = .returned (.tuple #[hdv 0 0 0, .int .i64 10]) ∧ Up w w' := by
  have E1 := Lib.hid (show a / 72057594037927936 = t from ht)
  have E2 := Lib.hid (show bits .and .u64 (a / 4294967296) 16777215 = l from (and24 _ (by omega) (by omega)).trans hl)
  have E2w := Lib.hid (show wrap64 l = l from w64_of l (by rw [← hl]; unfold lnw; omega) (by rw [← hl]; unfold lnw; omega))
  have E3 := Lib.hid (show bits .and .u64 a 4294967295 = m from (and_low32 a h0 (by omega)).trans hm)
  have R := Lib.hid (right_is t l m x h)
  have U := Lib.hid (Up.refl w)
  have n0 : (x != 0) = true := bne_iff_ne.mpr hx
  clear ht hl hm h hx
  go_enter Try.func76, Try.ntmps76
  go_wp2_with (fail)
  rw [E2.out, E2w.out, E3.out, E1.out]
  have D0 := (Blk.new w 55 #[.int .i64 0, .int .i64 0, .int .u64 0]).alloc (.cells #[.int .i64 t, .int .i64 l, .int .u64 m] 55)
  refine (R.out _).mono ?_
  rintro e w1 ⟨rfl, hg⟩
  replace D0 := D0.up hg
  have D0c := D0.cell
  have D0f := D0.frozen
  have D0l := D0.lt
  go_wp2
  refine bodyPost_ret (v := .tuple #[hdv 0 0 0, .int .i64 10]) (by simp [results, Try.results76, go_sem, D0c, D0l]) rfl ⟨rfl, ?_⟩
  exact (((U.out.alloc _).alloc _).trans hg).set3 (Nat.le_refl _) _ _ _

set_option maxHeartbeats 400000 in
theorem rtake_ok (a t l m : Int) (h0 : 0 ≤ a) (h1 : a ≤ 18446744073709551615) (ht : tgw a = t) (hl : lnw a = l) (hm : mpw a = m) (h : rte t l m = 0) (w : World) :
    Calls Try.prog 38 #[.int .u64 a] w fun e w' => e = .returned (.tuple #[hdv t l m, .int .i64 0]) ∧ Up w w' := by
  have E1 := Lib.hid (show a / 72057594037927936 = t from ht)
  have E2 := Lib.hid (show a / 4294967296 % 16777216 = l from hl)
  have E3 := Lib.hid (show a % 4294967296 = m from hm)
  have R := Lib.hid (rright_is t l m 0 (by rw [← hm]; exact mpw_nn a) h)
  have U := Lib.hid (Up.refl w)
  clear ht hl hm h
  go_enter Try.func38, Try.ntmps38
  go_wp2_with (fail)
  rw [E2.out, E3.out, E1.out]
  have D := Blk.new1 w (.cells #[.int .i64 0, .int .i64 0, .int .u64 0] 55) 55 #[.int .i64 t, .int .i64 l, .int .u64 m]
  have D0 := (Blk.new w 55 #[.int .i64 0, .int .i64 0, .int .u64 0]).alloc (.cells #[.int .i64 t, .int .i64 l, .int .u64 m] 55)
  refine (R.out _).mono ?_
  rintro e w1 ⟨rfl, hg⟩
  replace D := D.up hg
  replace D0 := D0.up hg
  have Dc := D.cell
  have Df := D.frozen
  have Dl := D.lt
  have D0c := D0.cell
  have D0f := D0.frozen
  have D0l := D0.lt
  go_wp2
  refine bodyPost_ret (v := .tuple #[hdv t l m, .int .i64 0]) (by simp [results, Try.results38, go_sem, D0c, D0l]) rfl ⟨rfl, ?_⟩
  exact (((U.out.alloc _).alloc _).trans hg).set3 (Nat.le_refl _) _ _ _

set_option maxHeartbeats 400000 in
theorem rtake_no (a t l m x : Int) (h0 : 0 ≤ a) (h1 : a ≤ 18446744073709551615) (ht : tgw a = t) (hl : lnw a = l) (hm : mpw a = m) (h : rte t l m = x) (hx : x ≠ 0) (w : World) :
    Calls Try.prog 38 #[.int .u64 a] w fun e w' => e = .returned (.tuple #[hdv 0 0 0, .int .i64 10]) ∧ Up w w' := by
  have E1 := Lib.hid (show a / 72057594037927936 = t from ht)
  have E2 := Lib.hid (show a / 4294967296 % 16777216 = l from hl)
  have E3 := Lib.hid (show a % 4294967296 = m from hm)
  have R := Lib.hid (rright_is t l m x (by rw [← hm]; exact mpw_nn a) h)
  have U := Lib.hid (Up.refl w)
  have n0 : (x != 0) = true := bne_iff_ne.mpr hx
  clear ht hl hm h hx
  go_enter Try.func38, Try.ntmps38
  go_wp2_with (fail)
  rw [E2.out, E3.out, E1.out]
  have D0 := (Blk.new w 55 #[.int .i64 0, .int .i64 0, .int .u64 0]).alloc (.cells #[.int .i64 t, .int .i64 l, .int .u64 m] 55)
  refine (R.out _).mono ?_
  rintro e w1 ⟨rfl, hg⟩
  replace D0 := D0.up hg
  have D0c := D0.cell
  have D0f := D0.frozen
  have D0l := D0.lt
  go_wp2
  refine bodyPost_ret (v := .tuple #[hdv 0 0 0, .int .i64 10]) (by simp [results, Try.results38, go_sem, D0c, D0l]) rfl ⟨rfl, ?_⟩
  exact (((U.out.alloc _).alloc _).trans hg).set3 (Nat.le_refl _) _ _ _

/-- Is a word a right head's? -/
def tkb (a : Int) : Prop := rte (tgw a) (lnw a) (mpw a) = 0
instance (a : Int) : Decidable (tkb a) := inferInstanceAs (Decidable (_ = _))
def tkt (a : Int) : Int := if tkb a then tgw a else 0
def tkl (a : Int) : Int := if tkb a then lnw a else 0
def tkm (a : Int) : Int := if tkb a then mpw a else 0
def tke (a : Int) : Int := if tkb a then 0 else 10
theorem take_any (a : Int) (h0 : 0 ≤ a) (h1 : a ≤ 18446744073709551615) (w : World) :
    Calls Try.prog 76 #[.int .u64 a] w fun e w' => e = .returned (.tuple #[hdv (tkt a) (tkl a) (tkm a), .int .i64 (tke a)]) ∧ Up w w' := by
  by_cases h : tkb a
  · rw [show tkt a = _ from if_pos h, show tkl a = _ from if_pos h, show tkm a = _ from if_pos h, show tke a = _ from if_pos h]
    exact take_ok a _ _ _ h0 h1 rfl rfl rfl h w
  · rw [show tkt a = _ from if_neg h, show tkl a = _ from if_neg h, show tkm a = _ from if_neg h, show tke a = _ from if_neg h]
    exact take_no a _ _ _ _ h0 h1 rfl rfl rfl rfl h w
theorem rtake_any (a : Int) (h0 : 0 ≤ a) (h1 : a ≤ 18446744073709551615) (w : World) :
    Calls Try.prog 38 #[.int .u64 a] w fun e w' => e = .returned (.tuple #[hdv (tkt a) (tkl a) (tkm a), .int .i64 (tke a)]) ∧ Up w w' := by
  by_cases h : tkb a
  · rw [show tkt a = _ from if_pos h, show tkl a = _ from if_pos h, show tkm a = _ from if_pos h, show tke a = _ from if_pos h]
    exact rtake_ok a _ _ _ h0 h1 rfl rfl rfl h w
  · rw [show tkt a = _ from if_neg h, show tkl a = _ from if_neg h, show tkm a = _ from if_neg h, show tke a = _ from if_neg h]
    exact rtake_no a _ _ _ _ h0 h1 rfl rfl rfl rfl h w
end Go.Proofs.Ytgcpkgogjcgfbaa
