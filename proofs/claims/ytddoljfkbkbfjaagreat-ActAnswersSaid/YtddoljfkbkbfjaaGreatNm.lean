/- The mathematics of words, the program's Add and Mul (package num), the document's own: contracts. -/
import Derived.Test.YtddoljfkbkbfjaaGreatFlo
import Derived.Test.YtddoljfkbkbfjaaGreatAa
namespace Go.Proofs.YtddoljfkbkbfjaaGreat.Nm
open Go.ChangeShapes Go.WideShapes Go.ChangeAt Go.RowKit
set_option linter.unusedVariables false

def pt (x : Int) : Int := (x + 32768) % 65536 - 32768
def pk (x y : Int) : Int := x % 65536 * 65536 + y % 65536
def re (a : Int) : Int := pt (a / 65536)
def im (a : Int) : Int := pt a
def nrm (a : Int) : Int := pk (re a) (im a)
def addw (a b : Int) : Int := pk (re a + re b) (im a + im b)
def mulw (a b : Int) : Int := pk (re a * re b - im a * im b) (re a * im b + im a * re b)
def cnj (a : Int) : Int := pk (re a) (-im a)
def poww (a : Int) : Nat → Int
  | 0 => pk 1 0
  | n + 1 => mulw (poww a n) a

theorem pt_bd (x : Int) : -32768 ≤ pt x ∧ pt x ≤ 32767 := by unfold pt; omega
theorem pk_bd (x y : Int) : 0 ≤ pk x y ∧ pk x y ≤ 4294967295 := by unfold pk; omega
theorem pk_nn (x y : Int) : 0 ≤ pk x y := (pk_bd x y).1
theorem nrm_nn (a : Int) : 0 ≤ nrm a := pk_nn _ _
theorem addw_nn (a b : Int) : 0 ≤ addw a b := pk_nn _ _
theorem mulw_nn (a b : Int) : 0 ≤ mulw a b := pk_nn _ _
theorem cnj_nn (a : Int) : 0 ≤ cnj a := pk_nn _ _
theorem poww_nn (a : Int) (n : Nat) : 0 ≤ poww a n := by cases n <;> exact pk_nn _ _
theorem re_pk (x y : Int) : re (pk x y) = pt x := by unfold re pk pt; omega
theorem im_pk (x y : Int) : im (pk x y) = pt y := by unfold im pk pt; omega
theorem re_bd (a : Int) : -32768 ≤ re a ∧ re a ≤ 32767 := pt_bd _
theorem im_bd (a : Int) : -32768 ≤ im a ∧ im a ≤ 32767 := pt_bd _

/-- The same modulo 2^16. -/
def cg (a b : Int) : Prop := a % 65536 = b % 65536
theorem cg_refl (a : Int) : cg a a := rfl
theorem cg_of {a b : Int} (h : a = b) : cg a b := by rw [h]; rfl
theorem cg_symm {a b : Int} (h : cg a b) : cg b a := Eq.symm h
theorem cg_trans {a b c : Int} (h : cg a b) (k : cg b c) : cg a c := Eq.trans h k
theorem cg_add {a b c d : Int} (h : cg a b) (k : cg c d) : cg (a + c) (b + d) := by unfold cg at *; omega
theorem cg_sub {a b c d : Int} (h : cg a b) (k : cg c d) : cg (a - c) (b - d) := by unfold cg at *; omega
theorem cg_neg {a b : Int} (h : cg a b) : cg (-a) (-b) := by unfold cg at *; omega
theorem cg_mul {a b c d : Int} (h : cg a b) (k : cg c d) : cg (a * c) (b * d) := by
  unfold cg at *; rw [Int.mul_emod, h, k, ← Int.mul_emod]
theorem cg_pt (x : Int) : cg (pt x) x := by unfold cg pt; omega
theorem pk_cg {x y u v : Int} (h : cg x u) (k : cg y v) : pk x y = pk u v := by unfold cg at h k; unfold pk; rw [h, k]
theorem pt_in (x : Int) (h : -32768 ≤ x ∧ x ≤ 32767) : pt x = x := by unfold pt; omega
theorem pt_cg {x y : Int} (h : cg x y) : pt x = pt y := by unfold cg at h; unfold pt; omega

/-! The model's words -/
theorem wrap_i16 (x : Int) : IntKind.i16.wrap x = pt x := by
  unfold pt
  simp only [IntKind.wrap, IntKind.bits, IntKind.signed]; simp; split <;> omega
theorem wrap_pt (x : Int) : wrap64 (pt x) = pt x := by
  have := pt_bd x
  unfold wrap64; omega
theorem or_pack (x y : Int) : bits BinOp.or IntKind.u64 (IntKind.u64.wrap (IntKind.u64.wrap (IntKind.u16.wrap x) * 65536)) (IntKind.u64.wrap (IntKind.u16.wrap y)) = pk x y := by
  rw [IntKind.wrap_u16, IntKind.wrap_u16, IntWalk.u64_in (x % 65536) (by omega), IntWalk.u64_in (y % 65536) (by omega), IntWalk.u64_in (x % 65536 * 65536) (by omega)]
  obtain ⟨p, hp⟩ := Int.eq_ofNat_of_zero_le (show 0 ≤ x % 65536 by omega)
  obtain ⟨q, hq⟩ := Int.eq_ofNat_of_zero_le (show 0 ≤ y % 65536 by omega)
  unfold pk
  rw [hp, hq]
  have h1 : ((p : Int) * 65536) = ((p * 65536 : Nat) : Int) := by omega
  rw [h1, bits_or_u64_nat _ _ (by omega) (by omega)]
  have h2 : p * 65536 ||| q = p * 65536 + q := by
    have := Nat.shiftLeft_add_eq_or_of_lt (i := 16) (b := q) (show q < 2 ^ 16 by omega) p
    rw [Nat.shiftLeft_eq] at this
    exact this.symm
  rw [h2]
  omega

theorem mul_bd {x u : Int} (hx : -32768 ≤ x ∧ x ≤ 32767) (hu : -32768 ≤ u ∧ u ≤ 32767) : -1073741824 ≤ x * u ∧ x * u ≤ 1073741824 := by
  have h1 : x.natAbs ≤ 32768 := by omega
  have h2 : u.natAbs ≤ 32768 := by omega
  have h3 : (x * u).natAbs ≤ 32768 * 32768 := by rw [Int.natAbs_mul]; exact Nat.mul_le_mul h1 h2
  omega

/-! What follows of the definitions -/
theorem re_add (a b : Int) : re (addw a b) = pt (re a + re b) := re_pk _ _
theorem im_add (a b : Int) : im (addw a b) = pt (im a + im b) := im_pk _ _
theorem re_mul (a b : Int) : re (mulw a b) = pt (re a * re b - im a * im b) := re_pk _ _
theorem im_mul (a b : Int) : im (mulw a b) = pt (re a * im b + im a * re b) := im_pk _ _
theorem re_cnj (a : Int) : re (cnj a) = pt (re a) := re_pk _ _
theorem im_cnj (a : Int) : im (cnj a) = pt (-im a) := im_pk _ _

theorem add_comm (a b : Int) : addw a b = addw b a := by unfold addw; rw [Int.add_comm (re a), Int.add_comm (im a)]
theorem mul_comm (a b : Int) : mulw a b = mulw b a := by
  unfold mulw; rw [Int.mul_comm (re a) (re b), Int.mul_comm (im a) (im b), Int.mul_comm (re a) (im b), Int.mul_comm (im a) (re b), Int.add_comm (im b * re a)]
theorem add_assoc (a b c : Int) : addw (addw a b) c = addw a (addw b c) := by
  unfold addw
  rw [re_pk, im_pk, re_pk, im_pk]
  refine pk_cg ?_ ?_
  · exact cg_trans (cg_add (cg_pt _) (cg_refl _)) (cg_trans (cg_of (Int.add_assoc _ _ _)) (cg_add (cg_refl _) (cg_symm (cg_pt _))))
  · exact cg_trans (cg_add (cg_pt _) (cg_refl _)) (cg_trans (cg_of (Int.add_assoc _ _ _)) (cg_add (cg_refl _) (cg_symm (cg_pt _))))

theorem alg1 (a b c d e f : Int) : (a * b - c * d) * e - (a * d + c * b) * f = a * (b * e - d * f) - c * (b * f + d * e) := by
  simp only [Int.sub_mul, Int.mul_sub, Int.add_mul, Int.mul_add, Int.mul_assoc]
  omega
theorem alg2 (a b c d e f : Int) : (a * b - c * d) * f + (a * d + c * b) * e = a * (b * f + d * e) + c * (b * e - d * f) := by
  simp only [Int.sub_mul, Int.mul_sub, Int.add_mul, Int.mul_add, Int.mul_assoc]
  omega
theorem mul_assoc (a b c : Int) : mulw (mulw a b) c = mulw a (mulw b c) := by
  unfold mulw
  rw [re_pk, im_pk, re_pk, im_pk]
  refine pk_cg ?_ ?_
  · refine cg_trans (cg_sub (cg_mul (cg_pt _) (cg_refl _)) (cg_mul (cg_pt _) (cg_refl _))) ?_
    refine cg_trans (cg_of (alg1 _ _ _ _ _ _)) ?_
    exact cg_sub (cg_mul (cg_refl _) (cg_symm (cg_pt _))) (cg_mul (cg_refl _) (cg_symm (cg_pt _)))
  · refine cg_trans (cg_add (cg_mul (cg_pt _) (cg_refl _)) (cg_mul (cg_pt _) (cg_refl _))) ?_
    refine cg_trans (cg_of (alg2 _ _ _ _ _ _)) ?_
    exact cg_add (cg_mul (cg_refl _) (cg_symm (cg_pt _))) (cg_mul (cg_refl _) (cg_symm (cg_pt _)))
theorem mul_add (a b c : Int) : mulw a (addw b c) = addw (mulw a b) (mulw a c) := by
  unfold mulw addw
  rw [re_pk, im_pk, re_pk, im_pk, re_pk, im_pk]
  refine pk_cg ?_ ?_
  · refine cg_trans (cg_sub (cg_mul (cg_refl _) (cg_pt _)) (cg_mul (cg_refl _) (cg_pt _))) ?_
    refine cg_trans (cg_of ?_) (cg_add (cg_symm (cg_pt _)) (cg_symm (cg_pt _)))
    simp only [Int.mul_add]; omega
  · refine cg_trans (cg_add (cg_mul (cg_refl _) (cg_pt _)) (cg_mul (cg_refl _) (cg_pt _))) ?_
    refine cg_trans (cg_of ?_) (cg_add (cg_symm (cg_pt _)) (cg_symm (cg_pt _)))
    simp only [Int.mul_add]; omega

theorem re_nrm (a : Int) : re (nrm a) = re a := by unfold nrm; rw [re_pk]; exact pt_in _ (re_bd a)
theorem im_nrm (a : Int) : im (nrm a) = im a := by unfold nrm; rw [im_pk]; exact pt_in _ (im_bd a)
theorem mul_cnj_im (a : Int) : im (mulw a (cnj a)) = 0 := by
  rw [im_mul, re_cnj, im_cnj, pt_in (re a) (re_bd a)]
  have : cg (re a * pt (-im a) + im a * re a) 0 := by
    refine cg_trans (cg_add (cg_mul (cg_refl _) (cg_pt _)) (cg_refl _)) (cg_of ?_)
    rw [Int.mul_neg, Int.mul_comm (im a)]; omega
  rw [pt_cg this]; decide
theorem cnj_cnj (a : Int) : cnj (cnj a) = nrm a := by
  unfold cnj nrm
  rw [re_pk, im_pk]
  refine pk_cg (cg_pt _) ?_
  exact cg_trans (cg_neg (cg_pt _)) (cg_of (Int.neg_neg _))
theorem cnj_mul (a b : Int) : cnj (mulw a b) = mulw (cnj a) (cnj b) := by
  unfold cnj mulw
  rw [re_pk, im_pk, re_pk, im_pk, re_pk, im_pk]
  refine pk_cg ?_ ?_
  · refine cg_trans (cg_pt _) (cg_trans ?_ (cg_symm (cg_sub (cg_mul (cg_pt _) (cg_pt _)) (cg_mul (cg_pt _) (cg_pt _)))))
    exact cg_of (by rw [Int.neg_mul_neg])
  · refine cg_trans (cg_neg (cg_pt _)) (cg_trans ?_ (cg_symm (cg_add (cg_mul (cg_pt _) (cg_pt _)) (cg_mul (cg_pt _) (cg_pt _)))))
    exact cg_of (by rw [Int.mul_neg, Int.neg_mul]; omega)
theorem cnj_add (a b : Int) : cnj (addw a b) = addw (cnj a) (cnj b) := by
  unfold cnj addw
  rw [re_pk, im_pk, re_pk, im_pk, re_pk, im_pk]
  refine pk_cg ?_ ?_
  · exact cg_trans (cg_pt _) (cg_symm (cg_add (cg_pt _) (cg_pt _)))
  · refine cg_trans (cg_neg (cg_pt _)) (cg_trans (cg_of ?_) (cg_symm (cg_add (cg_pt _) (cg_pt _))))
    omega
theorem re_0 : re 0 = 0 := by decide
theorem im_0 : im 0 = 0 := by decide
theorem add_0 (a : Int) : addw a 0 = nrm a := by unfold addw nrm; rw [re_0, im_0, Int.add_zero, Int.add_zero]
theorem mul_0 (a : Int) : mulw a 0 = 0 := by unfold mulw; rw [re_0, im_0]; simp; decide
theorem mul_1 (a : Int) : mulw a (pk 1 0) = nrm a := by
  unfold mulw nrm
  rw [re_pk, im_pk, show pt 1 = 1 by decide, show pt 0 = 0 by decide]
  simp
theorem nrm_eq (a : Int) : nrm a = a % 4294967296 := by unfold nrm pk re im pt; omega
theorem mul_nrm (a b : Int) : mulw (nrm a) b = mulw a b := by unfold mulw; rw [re_nrm, im_nrm]
theorem mul_i4 (a : Int) : mulw (mulw (mulw (mulw a (pk 0 1)) (pk 0 1)) (pk 0 1)) (pk 0 1) = nrm a := by
  rw [mul_assoc, mul_assoc, mul_assoc, show mulw (pk 0 1) (mulw (pk 0 1) (mulw (pk 0 1) (pk 0 1))) = pk 1 0 by decide, mul_1]
theorem nrm_pk (x y : Int) : nrm (pk x y) = pk x y := by
  unfold nrm; rw [re_pk, im_pk]; exact pk_cg (cg_pt _) (cg_pt _)
theorem pow_1 (a : Int) : poww a 1 = nrm a := by show mulw (pk 1 0) a = _; rw [mul_comm, mul_1]
theorem pow_add (a : Int) (n m : Nat) : poww a (n + m) = mulw (poww a n) (poww a m) := by
  induction m with
  | zero =>
    show poww a n = mulw (poww a n) (pk 1 0)
    rw [mul_1]
    cases n <;> exact (nrm_pk _ _).symm
  | succ m ih =>
    show mulw (poww a (n + m)) a = mulw (poww a n) (mulw (poww a m) a)
    rw [ih, mul_assoc]


set_option maxHeartbeats 400000 in
theorem part16 (a : Int) (h0 : 0 ≤ a) (p : Addr) (w : World) (hc : w.cell? p = some (.int .u64 a)) :
    Calls Tryz.prog 157 #[.int .u64 16, .pointer (some p)] w fun e w' => e = .returned (.int .i64 (re a)) ∧ w = w' := by
  go_enter Tryz.func157, Tryz.ntmps157
  go_wp2
  go_ret
  exact ⟨ret_int (by rw [wrap_i16, wrap_pt]; rfl), rfl⟩

set_option maxHeartbeats 400000 in
theorem part0 (a : Int) (h0 : 0 ≤ a) (p : Addr) (w : World) (hc : w.cell? p = some (.int .u64 a)) :
    Calls Tryz.prog 157 #[.int .u64 0, .pointer (some p)] w fun e w' => e = .returned (.int .i64 (im a)) ∧ w = w' := by
  go_enter Tryz.func157, Tryz.ntmps157
  go_wp2
  go_ret
  exact ⟨ret_int (by rw [wrap_i16, wrap_pt]; rfl), rfl⟩

set_option maxHeartbeats 400000 in
theorem pack_any (x y : Int) (w : World) :
    Calls Tryz.prog 143 #[.int .i64 x, .int .i64 y] w fun e w' => e = .returned (.int .u64 (pk x y)) ∧ w = w' := by
  go_enter Tryz.func143, Tryz.ntmps143
  go_wp2
  go_ret
  exact ⟨ret_int (or_pack x y), rfl⟩

set_option maxHeartbeats 400000 in
theorem parts_any (a : Int) (h0 : 0 ≤ a) (w : World) :
    Calls Tryz.prog 144 #[.int .u64 a] w fun e w' => e = .returned (.tuple #[.int .i64 (re a), .int .i64 (im a)]) ∧ Up w w' := by
  go_enter Tryz.func144, Tryz.ntmps144
  go_wp2_with (fail)
  refine (part16 a h0 _ _ (by go_simp)).mono ?_
  rintro e w' ⟨rfl, rfl⟩
  go_wp2_with (fail)
  refine (part0 a h0 _ _ (by go_simp)).mono ?_
  rintro e w' ⟨rfl, rfl⟩
  go_wp2
  go_ret2
  exact ⟨rfl, (Up.refl _).alloc _⟩

set_option maxHeartbeats 400000 in
set_option maxHeartbeats 400000 in
theorem number_any (a : Int) (h0 : 0 ≤ a) (w : World) :
    Calls Tryz.prog 123 #[.int .u64 a] w fun e w' => e = .returned (.complex .f64 (floatOfInt .f64 (re a)) (floatOfInt .f64 (im a))) ∧ Up w w' := by
  go_enter Tryz.func123, Tryz.ntmps123
  go_wp2_with (fail)
  refine (parts_any a h0 _).mono ?_
  rintro e w' ⟨rfl, hg⟩
  go_wp2
  go_ret
  exact ⟨rfl, hg⟩

set_option maxHeartbeats 400000 in
theorem word_any (r i : Nat) (x y : Int) (hr : Flo.Fb r x) (hi : Flo.Fb i y) (hx : x.natAbs < 2 ^ 53) (hy : y.natAbs < 2 ^ 53) (w : World) :
    Calls Tryz.prog 122 #[.complex .f64 r i] w fun e w' => e = .returned (.int .u64 (pk x y)) ∧ w = w' := by
  have c1 : ∀ w, (convert 184 3 (.float .f64 r)).run Tryz.prog w = .ok (.int .i64 x) w := fun w => run_convert_float_int w 184 3 .f64 .i64 r x (by rw [Tryz.underlying184]; rfl) Tryz.underlying3 (Flo.fb_int hr hx)
  have c2 : ∀ w, (convert 184 3 (.float .f64 i)).run Tryz.prog w = .ok (.int .i64 y) w := fun w => run_convert_float_int w 184 3 .f64 .i64 i y (by rw [Tryz.underlying184]; rfl) Tryz.underlying3 (Flo.fb_int hi hy)
  clear hr hi hx hy
  go_enter Tryz.func122, Tryz.ntmps122
  go_wp2_with (fail)
  refine (pack_any _ _ _).mono ?_
  rintro e w' ⟨rfl, rfl⟩
  go_wp2
  go_ret
  exact ⟨rfl, rfl⟩

theorem fb_part (x : Int) (h : -32768 ≤ x ∧ x ≤ 32767) : Flo.Fb (floatOfInt .f64 x) x := Flo.fb_of x (by omega)

set_option maxHeartbeats 400000 in
theorem add_any (a b : Int) (h0 : 0 ≤ a) (h1 : 0 ≤ b) (w : World) :
    Calls Tryz.prog 99 #[.int .u64 a, .int .u64 b] w fun e w' => e = .returned (.int .u64 (addw a b)) ∧ Up w w' := by
  have ba := re_bd a
  have bb := re_bd b
  have ca := im_bd a
  have cb := im_bd b
  obtain ⟨r, i, he, fr, fi⟩ := Flo.c_add (fb_part _ ba) (fb_part _ ca) (fb_part _ bb) (fb_part _ cb) (by omega) (by omega)
  have hw := fun w => word_any r i _ _ fr fi (by omega) (by omega) w
  have hrun : ∀ w, (binOp .add 164 (.complex .f64 (floatOfInt .f64 (re a)) (floatOfInt .f64 (im a))) (.complex .f64 (floatOfInt .f64 (re b)) (floatOfInt .f64 (im b)))).run Tryz.prog w = .ok (.complex .f64 r i) w :=
    fun w => run_complex_sum w .add (.inl rfl) 164 .f64 _ _ _ _ r i he
  have HW := Lib.hid hw
  clear hw he fr fi ba bb ca cb
  go_enter Tryz.func99, Tryz.ntmps99
  go_wp2_with (fail)
  refine (number_any a h0 _).mono ?_
  rintro e w1 ⟨rfl, hg⟩
  go_wp2_with (fail)
  refine (number_any b h1 _).mono ?_
  rintro e w2 ⟨rfl, hg2⟩
  go_wp2_with (fail)
  refine (HW.out _).mono ?_
  rintro e w' ⟨rfl, rfl⟩
  go_wp2
  go_ret
  exact ⟨rfl, hg.trans hg2⟩

set_option maxHeartbeats 400000 in
theorem mul_any (a b : Int) (h0 : 0 ≤ a) (h1 : 0 ≤ b) (w : World) :
    Calls Tryz.prog 100 #[.int .u64 a, .int .u64 b] w fun e w' => e = .returned (.int .u64 (mulw a b)) ∧ Up w w' := by
  have ba := re_bd a
  have bb := re_bd b
  have ca := im_bd a
  have cb := im_bd b
  have m1 := mul_bd ba bb
  have m2 := mul_bd ca cb
  have m3 := mul_bd ba cb
  have m4 := mul_bd ca bb
  obtain ⟨r, i, he, fr, fi⟩ := Flo.c_mul (fb_part _ ba) (fb_part _ ca) (fb_part _ bb) (fb_part _ cb) (by omega) (by omega) (by omega) (by omega) (by omega) (by omega)
  have hw := fun w => word_any r i _ _ fr fi (by omega) (by omega) w
  have hrun : ∀ w, (binOp .mul 164 (.complex .f64 (floatOfInt .f64 (re a)) (floatOfInt .f64 (im a))) (.complex .f64 (floatOfInt .f64 (re b)) (floatOfInt .f64 (im b)))).run Tryz.prog w = .ok (.complex .f64 r i) w :=
    fun w => run_complex_mul w 164 _ _ _ _ r i he
  have HW := Lib.hid hw
  clear hw he fr fi ba bb ca cb m1 m2 m3 m4
  go_enter Tryz.func100, Tryz.ntmps100
  go_wp2_with (fail)
  refine (number_any a h0 _).mono ?_
  rintro e w1 ⟨rfl, hg⟩
  go_wp2_with (fail)
  refine (number_any b h1 _).mono ?_
  rintro e w2 ⟨rfl, hg2⟩
  go_wp2_with (fail)
  refine (HW.out _).mono ?_
  rintro e w' ⟨rfl, rfl⟩
  go_wp2
  go_ret
  exact ⟨rfl, hg.trans hg2⟩

set_option maxHeartbeats 400000 in
set_option maxHeartbeats 400000 in

theorem tmod_nn (n : Int) (h : 0 ≤ n) : n.tmod 65536 = n % 65536 := Int.tmod_eq_emod_of_nonneg h
theorem tmod_bd (n : Int) : -65536 < n.tmod 65536 ∧ n.tmod 65536 < 65536 ∧ (n.tmod 65536) % 65536 = n % 65536 := by
  have h1 := Int.mul_tdiv_add_tmod n 65536
  have h2 := Int.tmod_lt_of_pos n (show (0 : Int) < 65536 by decide)
  have h3 := Int.lt_tmod_of_pos n (show (0 : Int) < 65536 by decide)
  omega

set_option maxHeartbeats 400000 in
theorem rpart (n : Int) (w : World) :
    Calls Tryz.prog 94 #[.int .i64 n] w fun e w' => e = .returned (.int .u64 (n % 65536)) ∧ w = w' := by
  obtain ⟨b1, b2, b3⟩ := tmod_bd n
  have H3 := Lib.hid b3
  clear b3
  by_cases h : n.tmod 65536 < 0
  · go_enter Tryz.func94, Tryz.ntmps94
    go_wp2
    go_ret
    exact ⟨ret_int (by have := H3.out; omega), rfl⟩
  · go_enter Tryz.func94, Tryz.ntmps94
    go_wp2
    go_ret
    exact ⟨ret_int (by have := H3.out; omega), rfl⟩

theorem pt_mod (n : Int) : pt (n % 65536) = pt n := by unfold pt; omega

set_option maxHeartbeats 400000 in
theorem rsign (n : Int) (h0 : 0 ≤ n) (h1 : n < 65536) (w : World) :
    Calls Tryz.prog 93 #[.int .u64 n] w fun e w' => e = .returned (.int .i64 (pt n)) ∧ w = w' := by
  by_cases h : 32768 ≤ n
  · go_enter Tryz.func93, Tryz.ntmps93
    go_wp2
    go_ret
    exact ⟨ret_int (by unfold pt; omega), rfl⟩
  · go_enter Tryz.func93, Tryz.ntmps93
    go_wp2
    go_ret
    exact ⟨ret_int (by unfold pt; omega), rfl⟩

set_option maxHeartbeats 400000 in
theorem rpack (x y : Int) (w : World) :
    Calls Tryz.prog 64 #[.int .i64 x, .int .i64 y] w fun e w' => e = .returned (.int .u64 (pk x y)) ∧ w = w' := by
  have b1 : 0 ≤ x % 65536 := by omega
  have b2 : x % 65536 < 65536 := by omega
  have b3 : 0 ≤ y % 65536 := by omega
  have b4 : y % 65536 < 65536 := by omega
  go_enter Tryz.func64, Tryz.ntmps64
  go_wp2_with (fail)
  refine (rpart x _).mono ?_
  rintro e w' ⟨rfl, rfl⟩
  go_wp2_with (fail)
  refine (rpart y _).mono ?_
  rintro e w' ⟨rfl, rfl⟩
  go_wp2
  go_ret
  exact ⟨ret_int (by unfold pk; omega), rfl⟩

set_option maxHeartbeats 400000 in
theorem rparts (a : Int) (h0 : 0 ≤ a) (k0 : a ≤ 18446744073709551615) (w : World) :
    Calls Tryz.prog 63 #[.int .u64 a] w fun e w' => e = .returned (.tuple #[.int .i64 (re a), .int .i64 (im a)]) ∧ w = w' := by
  have b1 : 0 ≤ a / 65536 := by omega
  go_enter Tryz.func63, Tryz.ntmps63
  go_wp2_with (fail)
  refine (rsign (a / 65536 % 65536) (by omega) (by omega) _).mono ?_
  rintro e w' ⟨rfl, rfl⟩
  go_wp2_with (fail)
  refine (rsign (a % 65536) (by omega) (by omega) _).mono ?_
  rintro e w' ⟨rfl, rfl⟩
  go_wp2
  go_ret2
  refine ⟨?_, rfl⟩
  show Ending.returned (.tuple #[.int .i64 (pt (a / 65536 % 65536)), .int .i64 (pt (a % 65536))]) = _
  rw [pt_mod, pt_mod]; rfl

set_option maxHeartbeats 400000 in
set_option maxHeartbeats 400000 in
theorem radd (a b : Int) (h0 : 0 ≤ a) (h1 : 0 ≤ b) (k0 : a ≤ 18446744073709551615) (k1 : b ≤ 18446744073709551615) (w : World) :
    Calls Tryz.prog 45 #[.int .u64 a, .int .u64 b] w fun e w' => e = .returned (.int .u64 (addw a b)) ∧ w = w' := by
  obtain ⟨c1, c2⟩ := re_bd a
  obtain ⟨c3, c4⟩ := re_bd b
  obtain ⟨c5, c6⟩ := im_bd a
  obtain ⟨c7, c8⟩ := im_bd b
  go_enter Tryz.func45, Tryz.ntmps45
  go_wp2_with (fail)
  refine (rparts a h0 k0 _).mono ?_
  rintro e w' ⟨rfl, rfl⟩
  go_wp2_with (fail)
  refine (rparts b h1 k1 _).mono ?_
  rintro e w' ⟨rfl, rfl⟩
  go_wp2_with (fail)
  refine (rpack (re a + re b) (im a + im b) _).mono ?_
  rintro e w' ⟨rfl, rfl⟩
  go_wp2
  go_ret
  exact ⟨rfl, rfl⟩

set_option maxHeartbeats 400000 in
theorem rmul (a b : Int) (h0 : 0 ≤ a) (h1 : 0 ≤ b) (k0 : a ≤ 18446744073709551615) (k1 : b ≤ 18446744073709551615) (w : World) :
    Calls Tryz.prog 46 #[.int .u64 a, .int .u64 b] w fun e w' => e = .returned (.int .u64 (mulw a b)) ∧ w = w' := by
  obtain ⟨m1, n1⟩ := mul_bd (re_bd a) (re_bd b)
  obtain ⟨m2, n2⟩ := mul_bd (im_bd a) (im_bd b)
  obtain ⟨m3, n3⟩ := mul_bd (re_bd a) (im_bd b)
  obtain ⟨m4, n4⟩ := mul_bd (im_bd a) (re_bd b)
  go_enter Tryz.func46, Tryz.ntmps46
  go_wp2_with (fail)
  refine (rparts a h0 k0 _).mono ?_
  rintro e w' ⟨rfl, rfl⟩
  go_wp2_with (fail)
  refine (rparts b h1 k1 _).mono ?_
  rintro e w' ⟨rfl, rfl⟩
  go_wp2_with (fail)
  refine (rpack (re a * re b - im a * im b) (re a * im b + im a * re b) _).mono ?_
  rintro e w' ⟨rfl, rfl⟩
  go_wp2
  go_ret
  exact ⟨rfl, rfl⟩

end Go.Proofs.YtddoljfkbkbfjaaGreat.Nm
