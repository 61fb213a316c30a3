/- Whole numbers of less than 53 bits are reckoned with exactly by doubles: nothing is assumed besides. -/
import Derived.Laws.ComplexArith
namespace Go.Proofs.YtddoljfkbkbfjaaGreat.Flo
open Ieee

/-- The datum stands for the whole number n. -/
def Is (d : Datum) (n : Int) : Prop :=
  ∃ (s : Bool) (m : Nat) (p : Int), d = .number s m p ∧ m * 2 ^ p.toNat = n.natAbs * 2 ^ (-p).toNat ∧ (n ≠ 0 → s = decide (n < 0))

theorem cut_exact (neg : Bool) (x drop k : Nat) (h : x = k * 2 ^ drop) (hd : drop ≤ x.log2 + 2) : Toward.even.cut neg x drop = k := by
  have hp : 0 < 2 ^ drop := Nat.two_pow_pos _
  unfold Toward.cut
  rw [Nat.min_eq_left hd]
  have h1 : (1 : Nat) <<< drop = 2 ^ drop := by simp [Nat.shiftLeft_eq]
  have h2 : x / 2 ^ drop = k := by rw [h]; exact Nat.mul_div_cancel _ hp
  have h3 : x % 2 ^ drop = 0 := by rw [h]; exact Nat.mul_mod_left _ _
  simp only [h1, h2, h3]
  have h4 : ¬ 2 ^ drop < 2 * 0 := by omega
  have h5 : ¬ 2 ^ drop = 2 * 0 := by omega
  simp [h4]

theorem log2_mul (m q : Nat) (h : m ≠ 0) : (m * 2 ^ q).log2 = m.log2 + q := by
  have hq : 0 < 2 ^ q := Nat.two_pow_pos _
  have hz : m * 2 ^ q ≠ 0 := Nat.mul_ne_zero h (by omega)
  rw [Nat.log2_eq_iff hz]
  have hm := (Nat.log2_eq_iff h).1 rfl
  constructor
  · rw [Nat.pow_add]; exact Nat.mul_le_mul_right _ hm.1
  · rw [show m.log2 + q + 1 = m.log2 + 1 + q by omega, Nat.pow_add]; exact Nat.mul_lt_mul_of_pos_right hm.2 hq

theorem log2_lt (N : Nat) (h0 : N ≠ 0) (h : N < 2 ^ 53) : N.log2 ≤ 52 := by
  have := (Nat.log2_lt h0).2 h
  omega

theorem least : double.leastPlace = -1074 := by decide
theorem frac : double.fractionBits = 52 := rfl
theorem bin : double.binade = 4503599627370496 := by decide
theorem inf : double.infRung = 2047 * 4503599627370496 := by decide
theorem sgn : double.signWeight = 2048 * 4503599627370496 := by decide

theorem pow_split (a b c : Nat) (h : a + b = c) : 2 ^ a * 2 ^ b = 2 ^ c := by rw [← Nat.pow_add, h]

theorem kept_bounds (N : Nat) (h0 : N ≠ 0) (h : N < 2 ^ 53) : 4503599627370496 ≤ N * 2 ^ (52 - N.log2) ∧ N * 2 ^ (52 - N.log2) < 2 * 4503599627370496 := by
  have hl := log2_lt N h0 h
  have hn := (Nat.log2_eq_iff h0).1 rfl
  have hp : 0 < 2 ^ (52 - N.log2) := Nat.two_pow_pos _
  have e1 : 2 ^ N.log2 * 2 ^ (52 - N.log2) = 4503599627370496 := pow_split _ _ 52 (by omega)
  have e2 : 2 ^ (N.log2 + 1) * 2 ^ (52 - N.log2) = 2 * 4503599627370496 := pow_split _ _ 53 (by omega)
  constructor
  · rw [← e1]; exact Nat.mul_le_mul_right _ hn.1
  · rw [← e2]; exact Nat.mul_lt_mul_of_pos_right hn.2 hp

theorem nearest_of (s : Bool) (m N : Nat) (p : Int) (h0 : N ≠ 0) (hN : N < 2 ^ 53) (h : m * 2 ^ p.toNat = N * 2 ^ (-p).toNat) :
    double.nearest s m p = double.word s ((N.log2 + 1022) * 4503599627370496 + N * 2 ^ (52 - N.log2)) := by
  have hl := log2_lt N h0 hN
  have hm0 : m ≠ 0 := by
    rintro rfl
    have : 0 < 2 ^ (-p).toNat := Nat.two_pow_pos _
    have : N * 2 ^ (-p).toNat ≠ 0 := Nat.mul_ne_zero h0 (by omega)
    omega
  have hk := kept_bounds N h0 hN
  have key : (p + m.log2 - 52 : Int) = N.log2 - 52 ∧ Toward.even.cut s (m <<< (p - ((N.log2 : Int) - 52)).toNat) (((N.log2 : Int) - 52) - p).toNat = N * 2 ^ (52 - N.log2) := by
    rcases Int.le_total 0 p with hp | hp
    · obtain ⟨q, rfl⟩ := Int.eq_ofNat_of_zero_le hp
      have e1 : ((q : Int)).toNat = q := by omega
      have e2 : (-(q : Int)).toNat = 0 := by omega
      rw [e1, e2] at h
      simp only [Nat.pow_zero, Nat.mul_one] at h
      have hlog := log2_mul m q hm0
      rw [h] at hlog
      refine ⟨by omega, ?_⟩
      have e3 : ((q : Int) - ((N.log2 : Int) - 52)).toNat = 52 - m.log2 := by omega
      have e4 : (((N.log2 : Int) - 52) - (q : Int)).toNat = 0 := by omega
      rw [e3, e4]
      refine cut_exact _ _ _ _ ?_ (by omega)
      have e5 : N * 2 ^ (52 - N.log2) = m * 2 ^ (52 - m.log2) := by
        rw [show N * 2 ^ (52 - N.log2) = m * 2 ^ q * 2 ^ (52 - N.log2) by rw [h], Nat.mul_assoc, pow_split q _ (52 - m.log2) (by omega)]
      rw [Nat.shiftLeft_eq, e5]
      simp
    · obtain ⟨q, rfl⟩ : ∃ q : Nat, p = -(q : Int) := ⟨(-p).toNat, by omega⟩
      have e1 : (-(q : Int)).toNat = 0 := by omega
      have e2 : (-(-(q : Int))).toNat = q := by omega
      rw [e1, e2] at h
      simp only [Nat.pow_zero, Nat.mul_one] at h
      have hlog := log2_mul N q h0
      rw [← h] at hlog
      refine ⟨by omega, ?_⟩
      rcases Nat.le_total (q + N.log2) 52 with hq | hq
      · have e3 : (-(q : Int) - ((N.log2 : Int) - 52)).toNat = 52 - N.log2 - q := by omega
        have e4 : (((N.log2 : Int) - 52) - -(q : Int)).toNat = 0 := by omega
        rw [e3, e4]
        refine cut_exact _ _ _ _ ?_ (by omega)
        rw [Nat.shiftLeft_eq, h, Nat.mul_assoc, pow_split q _ (52 - N.log2) (by omega)]
        simp
      · have e3 : (-(q : Int) - ((N.log2 : Int) - 52)).toNat = 0 := by omega
        have e4 : (((N.log2 : Int) - 52) - -(q : Int)).toNat = q + N.log2 - 52 := by omega
        rw [e3, e4]
        refine cut_exact _ _ _ _ ?_ (by simp; omega)
        rw [Nat.shiftLeft_eq, h, Nat.mul_assoc N (2 ^ (52 - N.log2)), pow_split _ _ q (by omega)]
        simp
  obtain ⟨k1, k2⟩ := key
  unfold Format.nearest
  rw [if_neg hm0]
  simp only [frac, least, bin, inf]
  have e5 : max (p + m.log2 - ((52 : Nat) : Int)) (-1074) = (N.log2 : Int) - 52 := by
    have : p + m.log2 - ((52 : Nat) : Int) = (N.log2 : Int) - 52 := k1
    omega
  rw [e5, k2]
  have e6 : ((N.log2 : Int) - 52 - -1074).toNat = N.log2 + 1022 := by omega
  rw [e6, Nat.min_eq_left (by omega)]

theorem read_of (s : Bool) (N : Nat) (h0 : N ≠ 0) (hN : N < 2 ^ 53) :
    double.read (double.word s ((N.log2 + 1022) * 4503599627370496 + N * 2 ^ (52 - N.log2))) = .number s (N * 2 ^ (52 - N.log2)) ((N.log2 : Int) - 52) := by
  have hl := log2_lt N h0 hN
  have hk := kept_bounds N h0 hN
  generalize hK : N * 2 ^ (52 - N.log2) = K at hk ⊢
  generalize hL : N.log2 = l at hl ⊢
  clear hK hL
  obtain ⟨f, rfl⟩ : ∃ f, K = 4503599627370496 + f := ⟨K - 4503599627370496, by omega⟩
  unfold Format.read Format.word
  simp only [least, bin, inf, sgn]
  have a1 : (if s = true then 2048 * 4503599627370496 + ((l + 1022) * 4503599627370496 + (4503599627370496 + f)) else (l + 1022) * 4503599627370496 + (4503599627370496 + f)) % (2048 * 4503599627370496) = (l + 1022) * 4503599627370496 + (4503599627370496 + f) := by
    cases s <;> simp <;> omega
  have a2 : ((if s = true then 2048 * 4503599627370496 + ((l + 1022) * 4503599627370496 + (4503599627370496 + f)) else (l + 1022) * 4503599627370496 + (4503599627370496 + f)) / (2048 * 4503599627370496) % 2 == 1) = s := by
    cases s
    · have : ((l + 1022) * 4503599627370496 + (4503599627370496 + f)) / (2048 * 4503599627370496) % 2 = 0 := by omega
      simp only [Bool.false_eq_true, if_false, this]; rfl
    · have : (2048 * 4503599627370496 + ((l + 1022) * 4503599627370496 + (4503599627370496 + f))) / (2048 * 4503599627370496) % 2 = 1 := by omega
      simp only [if_true, this]; rfl
  rw [a1, a2, if_neg (by omega), if_pos (by omega)]
  have a3 : ((l + 1022) * 4503599627370496 + (4503599627370496 + f)) % 4503599627370496 = f := by omega
  have a4 : ((l + 1022) * 4503599627370496 + (4503599627370496 + f)) / 4503599627370496 = l + 1023 := by omega
  have a5 : (-1074 : Int) + ((l + 1023 - 1 : Nat) : Int) = (l : Int) - 52 := by omega
  rw [a3, a4, a5]

theorem zero_read (s : Bool) : double.read (double.word s 0) = .number s 0 double.leastPlace := by
  have h1 : double.word s 0 % double.signWeight = 0 := by
    rw [sgn]; unfold Format.word; rw [sgn]; cases s <;> decide
  have h2 : (double.word s 0 / double.signWeight % 2 == 1) = s := by
    rw [sgn]; unfold Format.word; rw [sgn]; cases s <;> decide
  unfold Format.read
  simp only [h1, h2]
  rw [if_pos (by rw [bin]; omega)]

theorem zero_is (s : Bool) : Is (double.read (double.word s 0)) 0 := by
  rw [zero_read]
  generalize double.leastPlace = p
  exact ⟨s, 0, p, rfl, by simp, fun h => absurd rfl h⟩

/-- What is written and read again stands for the same whole number. -/
theorem write_is {d : Datum} {n : Int} (h : Is d n) (hn : n.natAbs < 2 ^ 53) : Is (double.read (double.write d)) n := by
  obtain ⟨s, m, p, rfl, hm, hs⟩ := h
  by_cases h0 : n = 0
  · subst h0
    have : m = 0 := by
      simp only [Int.natAbs_zero, Nat.zero_mul] at hm
      rcases Nat.mul_eq_zero.1 hm with h | h
      · exact h
      · have := Nat.two_pow_pos p.toNat; omega
    subst this
    show Is (double.read (double.nearest s 0 p)) 0
    have : double.nearest s 0 p = double.word s 0 := by unfold Format.nearest; simp
    rw [this]
    exact zero_is s
  · have hN : n.natAbs ≠ 0 := by omega
    have hl := log2_lt _ hN hn
    show Is (double.read (double.nearest s m p)) n
    rw [nearest_of s m n.natAbs p hN hn hm, read_of s n.natAbs hN hn]
    refine ⟨s, _, _, rfl, ?_, hs⟩
    have e1 : ((n.natAbs.log2 : Int) - 52).toNat = 0 := by omega
    have e2 : (-((n.natAbs.log2 : Int) - 52)).toNat = 52 - n.natAbs.log2 := by omega
    rw [e1, e2]
    simp

theorem signed_eq (s : Bool) (m up : Nat) : signed s m up = (if s then -1 else 1) * ((m : Int) * 2 ^ up) := by
  unfold signed
  cases s <;> simp [Nat.shiftLeft_eq]

theorem neg_cancel (n x : Int) : -1 * (-n * x) = n * x := by rw [Int.neg_mul, Int.neg_mul, Int.one_mul, Int.neg_neg]

/-- The exact value over a common place. -/
theorem is_signed {s : Bool} {m : Nat} {p : Int} {n : Int} (hm : m * 2 ^ p.toNat = n.natAbs * 2 ^ (-p).toNat) (hs : n ≠ 0 → s = decide (n < 0)) (b : Int) (hb : b ≤ p) :
    signed s m (p - b).toNat * 2 ^ b.toNat = n * 2 ^ (-b).toNat := by
  have hM : m * 2 ^ (p - b).toNat * 2 ^ b.toNat = n.natAbs * 2 ^ (-b).toNat := by
    have e : 2 ^ (-p).toNat * (m * 2 ^ (p - b).toNat * 2 ^ b.toNat) = 2 ^ (-p).toNat * (n.natAbs * 2 ^ (-b).toNat) := by
      have x1 : 2 ^ (-p).toNat * (m * 2 ^ (p - b).toNat * 2 ^ b.toNat) = m * 2 ^ p.toNat * 2 ^ (-b).toNat := by
        rw [Nat.mul_assoc m, Nat.mul_left_comm, pow_split (p - b).toNat b.toNat _ rfl, pow_split (-p).toNat _ (p.toNat + (-b).toNat) (by omega), Nat.pow_add, Nat.mul_assoc]
      rw [x1, hm, Nat.mul_assoc, Nat.mul_left_comm]
    exact Nat.eq_of_mul_eq_mul_left (Nat.two_pow_pos _) e
  have hI : (m : Int) * 2 ^ (p - b).toNat * 2 ^ b.toNat = (n.natAbs : Int) * 2 ^ (-b).toNat := by
    have := congrArg (fun x : Nat => (x : Int)) hM
    simpa using this
  rw [signed_eq, Int.mul_assoc, hI]
  by_cases h0 : n = 0
  · subst h0; simp
  · have := hs h0
    subst this
    by_cases hneg : n < 0
    · have : (n.natAbs : Int) = -n := by omega
      rw [this]
      simp only [hneg, decide_true, if_true]
      exact neg_cancel _ _
    · have : (n.natAbs : Int) = n := by omega
      rw [this]
      simp [hneg]

theorem pow_pos (k : Nat) : (0 : Int) < 2 ^ k := Int.pow_pos (by decide)

theorem sum_is {d e : Datum} {n k : Int} (hd : Is d n) (he : Is e k) : ∃ r, d.sum e = some r ∧ Is r (n + k) := by
  obtain ⟨s, m, p, rfl, hm, hs⟩ := hd
  obtain ⟨t, m', p', rfl, hm', hs'⟩ := he
  refine ⟨_, rfl, _, _, _, rfl, ?_, ?_⟩
  all_goals
    have h1 := is_signed hm hs (min p p') (by omega)
    have h2 := is_signed hm' hs' (min p p') (by omega)
    have h3 : (signed s m (p - min p p').toNat + signed t m' (p' - min p p').toNat) * 2 ^ (min p p').toNat = (n + k) * 2 ^ (-min p p').toNat := by
      rw [Int.add_mul, Int.add_mul, h1, h2]
    generalize signed s m (p - min p p').toNat + signed t m' (p' - min p p').toNat = T at h3 ⊢
  · have := congrArg Int.natAbs h3
    simpa [Int.natAbs_mul, Int.natAbs_pow] using this
  · intro h0
    have p1 := pow_pos (min p p').toNat
    have p2 := pow_pos (-min p p').toNat
    have hT : T ≠ 0 := by
      rintro rfl
      rw [Int.zero_mul] at h3
      rcases Int.mul_eq_zero.1 h3.symm with h | h <;> omega
    rw [if_neg hT]
    by_cases hneg : n + k < 0
    · have a := Int.mul_neg_of_neg_of_pos hneg p2
      rw [← h3] at a
      have : T < 0 := by
        rcases Int.lt_or_le T 0 with h | h
        · exact h
        · have := Int.mul_nonneg h (Int.le_of_lt p1); omega
      simp [hneg, this]
    · have a := Int.mul_nonneg (Int.not_lt.1 hneg) (Int.le_of_lt p2)
      rw [← h3] at a
      have : ¬ T < 0 := by
        intro h
        have := Int.mul_neg_of_neg_of_pos h p1; omega
      simp [hneg, this]

theorem product_is {d e : Datum} {n k : Int} (hd : Is d n) (he : Is e k) : ∃ r, d.product e = some r ∧ Is r (n * k) := by
  obtain ⟨s, m, p, rfl, hm, hs⟩ := hd
  obtain ⟨t, m', p', rfl, hm', hs'⟩ := he
  refine ⟨_, rfl, _, _, _, rfl, ?_, ?_⟩
  · obtain ⟨c, hc1, hc2⟩ : ∃ c : Nat, c + (p + p').toNat = p.toNat + p'.toNat ∧ c + (-(p + p')).toNat = (-p).toNat + (-p').toNat :=
      ⟨p.toNat + p'.toNat - (p + p').toNat, by omega, by omega⟩
    refine Nat.eq_of_mul_eq_mul_left (Nat.two_pow_pos c) ?_
    rw [Int.natAbs_mul, Nat.mul_left_comm, Nat.mul_left_comm (2 ^ c), ← Nat.pow_add, ← Nat.pow_add, hc1, hc2, Nat.pow_add, Nat.pow_add]
    calc m * m' * (2 ^ p.toNat * 2 ^ p'.toNat) = (m * 2 ^ p.toNat) * (m' * 2 ^ p'.toNat) := Nat.mul_mul_mul_comm _ _ _ _
      _ = (n.natAbs * 2 ^ (-p).toNat) * (k.natAbs * 2 ^ (-p').toNat) := by rw [hm, hm']
      _ = n.natAbs * k.natAbs * (2 ^ (-p).toNat * 2 ^ (-p').toNat) := Nat.mul_mul_mul_comm _ _ _ _
  · intro h0
    have hn : n ≠ 0 := by rintro rfl; simp at h0
    have hk : k ≠ 0 := by rintro rfl; simp at h0
    rw [hs hn, hs' hk]
    by_cases a : n < 0 <;> by_cases b : k < 0
    · have := Int.mul_pos_of_neg_of_neg a b
      have : ¬ n * k < 0 := by omega
      simp [a, b, this]
    · have := Int.mul_neg_of_neg_of_pos a (show 0 < k by omega)
      simp [a, b, this]
    · have := Int.mul_neg_of_pos_of_neg (show 0 < n by omega) b
      simp [a, b, this]
    · have := Int.mul_pos (show 0 < n by omega) (show 0 < k by omega)
      have : ¬ n * k < 0 := by omega
      simp [a, b, this]

theorem opposite_is {d : Datum} {n : Int} (hd : Is d n) : Is d.opposite (-n) := by
  obtain ⟨s, m, p, rfl, hm, hs⟩ := hd
  refine ⟨_, _, _, rfl, by rw [Int.natAbs_neg]; exact hm, fun h => ?_⟩
  rw [hs (by omega)]
  by_cases a : n < 0
  · have : ¬ -n < 0 := by omega
    simp only [a, this, decide_true, decide_false, Bool.not_true]
  · have : -n < 0 := by omega
    simp only [a, this, decide_true, decide_false, Bool.not_false]

theorem toInt_is {d : Datum} {n : Int} (hd : Is d n) : d.toInt .zero = some n := by
  obtain ⟨s, m, p, rfl, hm, hs⟩ := hd
  have hc : Toward.zero.cut s (m <<< p.toNat) (-p).toNat = n.natAbs := by
    rw [Nat.shiftLeft_eq, hm]
    unfold Toward.cut
    by_cases h0 : n = 0
    · subst h0
      simp
    · have hN : n.natAbs ≠ 0 := by omega
      have hl := log2_mul n.natAbs (-p).toNat hN
      rw [Nat.min_eq_left (by omega)]
      have h1 : (1 : Nat) <<< (-p).toNat = 2 ^ (-p).toNat := by simp [Nat.shiftLeft_eq]
      simp only [h1, Nat.mul_div_cancel _ (Nat.two_pow_pos (-p).toNat)]
      rfl
  show some (signed s (Toward.zero.cut s (m <<< p.toNat) (-p).toNat) 0) = some n
  rw [hc, signed_eq]
  by_cases h0 : n = 0
  · subst h0; simp
  · rw [hs h0]
    by_cases a : n < 0
    · simp only [a, decide_true, if_true, Int.pow_zero, Int.mul_one]; clear hm hc; congr 1; omega
    · simp only [a, decide_false, Bool.false_eq_true, if_false, Int.pow_zero, Int.mul_one]; clear hm hc; congr 1; omega

/-- The bits of a double stand for the whole number n. -/
def Fb (b : Nat) (n : Int) : Prop := Is (double.read b) n

theorem fb_add {a b : Nat} {n k : Int} (ha : Fb a n) (hb : Fb b k) (h : (n + k).natAbs < 2 ^ 53) : ∃ r, floatBits .add .f64 a b = some r ∧ Fb r (n + k) := by
  obtain ⟨d, hd, his⟩ := sum_is ha hb
  refine ⟨double.write d, ?_, write_is his h⟩
  show ((double.read a).sum (double.read b)).map double.write = _
  rw [hd]; rfl

theorem fb_sub {a b : Nat} {n k : Int} (ha : Fb a n) (hb : Fb b k) (h : (n - k).natAbs < 2 ^ 53) : ∃ r, floatBits .sub .f64 a b = some r ∧ Fb r (n - k) := by
  obtain ⟨d, hd, his⟩ := sum_is ha (opposite_is hb)
  refine ⟨double.write d, ?_, write_is his h⟩
  show ((double.read a).sum (double.read b).opposite).map double.write = _
  rw [hd]; rfl

theorem fb_mul {a b : Nat} {n k : Int} (ha : Fb a n) (hb : Fb b k) (h : (n * k).natAbs < 2 ^ 53) : ∃ r, floatBits .mul .f64 a b = some r ∧ Fb r (n * k) := by
  obtain ⟨d, hd, his⟩ := product_is ha hb
  refine ⟨double.write d, ?_, write_is his h⟩
  show ((double.read a).product (double.read b)).map double.write = _
  rw [hd]; rfl

theorem fb_of (n : Int) (h : n.natAbs < 2 ^ 53) : Fb (floatOfInt .f64 n) n := by
  have his : Is (.number (decide (n < 0)) n.natAbs 0) n := ⟨_, _, _, rfl, rfl, fun _ => rfl⟩
  exact write_is his h

theorem fb_int {b : Nat} {n : Int} (hb : Fb b n) (h : n.natAbs < 2 ^ 53) : floatToIntVal .f64 b .i64 = some n := by
  unfold floatToIntVal
  have h1 : (FloatKind.f64.decode b).toInt .zero = some n := toInt_is hb
  rw [h1]
  have h2 : IntKind.i64.min ≤ n ∧ n ≤ IntKind.i64.max := by
    have e1 : IntKind.i64.min = -9223372036854775808 := by decide
    have e2 : IntKind.i64.max = 9223372036854775807 := by decide
    rw [e1, e2]; omega
  simp only [h2, and_self, if_true]

theorem read_neg (b : Nat) : double.read (Op.negFloat .f64 b) = (double.read b).opposite := by
  have e : Op.negFloat .f64 b = b ^^^ 2 ^ 63 := rfl
  have h1 : (b ^^^ 2 ^ 63) % 2 ^ 63 = b % 2 ^ 63 := by rw [Nat.xor_mod_two_pow, Nat.mod_self, Nat.xor_zero]
  have h2 : (b ^^^ 2 ^ 63) / 2 ^ 63 % 2 = 1 - b / 2 ^ 63 % 2 := by
    rw [Nat.xor_div_two_pow, Nat.div_self (Nat.two_pow_pos 63)]
    generalize b / 2 ^ 63 = q
    have := Nat.xor_mod_two_pow (a := q) (b := 1) (n := 1)
    simp only [Nat.pow_one] at this
    rw [this]
    rcases Nat.mod_two_eq_zero_or_one q with h | h <;> rw [h] <;> rfl
  rw [e]
  unfold Format.read
  have hw : double.signWeight = 2 ^ 63 := by rw [sgn]
  simp only [hw, h1, h2]
  generalize b % 2 ^ 63 = r
  have h3 : (1 - b / 2 ^ 63 % 2 == 1) = !(b / 2 ^ 63 % 2 == 1) := by
    rcases Nat.mod_two_eq_zero_or_one (b / 2 ^ 63) with h | h <;> rw [h] <;> rfl
  rw [h3]
  split
  · rfl
  · split
    · rfl
    · split <;> rfl

theorem fb_neg {b : Nat} {n : Int} (h : Fb b n) : Fb (Op.negFloat .f64 b) (-n) := by
  unfold Fb
  rw [read_neg]
  exact opposite_is h

theorem c_add {a b c d : Nat} {x y u v : Int} (ha : Fb a x) (hb : Fb b y) (hc : Fb c u) (hd : Fb d v) (h1 : (x + u).natAbs < 2 ^ 53) (h2 : (y + v).natAbs < 2 ^ 53) :
    ∃ re im, cSumBits .add .f64 a b c d = some (re, im) ∧ Fb re (x + u) ∧ Fb im (y + v) := by
  obtain ⟨r, hr, fr⟩ := fb_add ha hc h1
  obtain ⟨i, hi, fi⟩ := fb_add hb hd h2
  exact ⟨r, i, by unfold cSumBits; rw [hr, hi]; rfl, fr, fi⟩

theorem c_mul {a b c d : Nat} {x y u v : Int} (ha : Fb a x) (hb : Fb b y) (hc : Fb c u) (hd : Fb d v) (h1 : (x * u).natAbs < 2 ^ 53) (h2 : (y * v).natAbs < 2 ^ 53)
    (h3 : (x * u - y * v).natAbs < 2 ^ 53) (h4 : (x * v).natAbs < 2 ^ 53) (h5 : (y * u).natAbs < 2 ^ 53) (h6 : (x * v + y * u).natAbs < 2 ^ 53) :
    ∃ re im, cMulBits a b c d = some (re, im) ∧ Fb re (x * u - y * v) ∧ Fb im (x * v + y * u) := by
  obtain ⟨r1, e1, f1⟩ := fb_mul ha hc h1
  obtain ⟨r2, e2, f2⟩ := fb_mul hb hd h2
  obtain ⟨r3, e3, f3⟩ := fb_sub f1 f2 h3
  obtain ⟨r4, e4, f4⟩ := fb_mul ha hd h4
  obtain ⟨r5, e5, f5⟩ := fb_mul hb hc h5
  obtain ⟨r6, e6, f6⟩ := fb_add f4 f5 h6
  exact ⟨r3, r6, by unfold cMulBits; rw [e1, e2]; simp only [Option.bind_some]; rw [e3, e4, e5]; simp only [Option.bind_some]; rw [e6]; rfl, f3, f6⟩

end Go.Proofs.YtddoljfkbkbfjaaGreat.Flo
