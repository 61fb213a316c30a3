/- The program's own reckoning (package num) does what the mathematics says: contracts of its functions, for every word. -/
import Derived.Test.YtiihhgpmkodjmaaRows
import Derived.Test.YtiihhgpmkodjmaaMth
import Derived.WalkKit
import Derived.ProofKit
import Derived.OpenShut
import Derived.WalkLawsBesides
import Derived.Lib.Hide
namespace Go.Proofs.Ytiihhgpmkodjmaa
open Go.ChangeShapes Go.WideShapes Go.ChangeAt Go.RowKit
set_option linter.unusedVariables false

theorem grown_trans {a b c : World} (h : Grown a b) (k : Grown b c) : Grown a c :=
  ⟨World.keptBut_trans h.1 k.1, fun x => (k.2.1 x).trans (h.2.1 x), Nat.le_trans h.2.2 k.2.2⟩

theorem ret_int {k : IntKind} {a b : Int} (h : a = b) : Ending.returned (.int k a) = .returned (.int k b) := by rw [h]

set_option maxHeartbeats 400000 in
theorem part16 (a : Int) (h0 : 0 ≤ a) (p : Addr) (w : World) (hc : w.cell? p = some (.int .u64 a)) :
    Calls Try.prog 26 #[.int .u64 16, .pointer (some p)] w fun e w' => e = .returned (.int .i64 (re a)) ∧ w = w' := by
  go_enter Try.func26, Try.ntmps26
  go_wp2
  go_ret
  exact ⟨ret_int (by rw [wrap_i16, wrap_pt]; rfl), rfl⟩

set_option maxHeartbeats 400000 in
theorem part0 (a : Int) (h0 : 0 ≤ a) (p : Addr) (w : World) (hc : w.cell? p = some (.int .u64 a)) :
    Calls Try.prog 26 #[.int .u64 0, .pointer (some p)] w fun e w' => e = .returned (.int .i64 (im a)) ∧ w = w' := by
  go_enter Try.func26, Try.ntmps26
  go_wp2
  go_ret
  exact ⟨ret_int (by rw [wrap_i16, wrap_pt]; rfl), rfl⟩

set_option maxHeartbeats 400000 in
theorem pack_any (x y : Int) (w : World) :
    Calls Try.prog 14 #[.int .i64 x, .int .i64 y] w fun e w' => e = .returned (.int .u64 (pk x y)) ∧ w = w' := by
  go_enter Try.func14, Try.ntmps14
  go_wp2
  go_ret
  exact ⟨ret_int (or_pack x y), rfl⟩

set_option maxHeartbeats 400000 in
theorem parts_any (a : Int) (h0 : 0 ≤ a) (w : World) :
    Calls Try.prog 12 #[.int .u64 a] w fun e w' => e = .returned (.tuple #[.int .i64 (re a), .int .i64 (im a)]) ∧ Grown w w' := by
  go_enter Try.func12, Try.ntmps12
  go_wp2_with (fail)
  refine (part16 a h0 _ _ (by go_simp)).mono ?_
  rintro e w' ⟨rfl, rfl⟩
  go_wp2_with (fail)
  refine (part0 a h0 _ _ (by go_simp)).mono ?_
  rintro e w' ⟨rfl, rfl⟩
  go_wp2
  go_ret2
  exact ⟨rfl, (Grown.refl _).alloc _ _⟩

set_option maxHeartbeats 400000 in
theorem norm_any (a : Int) (h0 : 0 ≤ a) (w : World) :
    Calls Try.prog 16 #[.int .u64 a] w fun e w' => e = .returned (.int .u64 (nrm a)) ∧ Grown w w' := by
  go_enter Try.func16, Try.ntmps16
  go_wp2_with (fail)
  refine (parts_any a h0 _).mono ?_
  rintro e w' ⟨rfl, hg⟩
  go_wp2_with (fail)
  refine (pack_any _ _ _).mono ?_
  rintro e w' ⟨rfl, rfl⟩
  go_wp2
  go_ret
  exact ⟨rfl, hg⟩

set_option maxHeartbeats 400000 in
theorem number_any (a : Int) (h0 : 0 ≤ a) (w : World) :
    Calls Try.prog 30 #[.int .u64 a] w fun e w' => e = .returned (.complex .f64 (floatOfInt .f64 (re a)) (floatOfInt .f64 (im a))) ∧ Grown w w' := by
  go_enter Try.func30, Try.ntmps30
  go_wp2_with (fail)
  refine (parts_any a h0 _).mono ?_
  rintro e w' ⟨rfl, hg⟩
  go_wp2
  go_ret
  exact ⟨rfl, hg⟩

set_option maxHeartbeats 400000 in
theorem word_any (r i : Nat) (x y : Int) (hr : Flo.Fb r x) (hi : Flo.Fb i y) (hx : x.natAbs < 2 ^ 53) (hy : y.natAbs < 2 ^ 53) (w : World) :
    Calls Try.prog 29 #[.complex .f64 r i] w fun e w' => e = .returned (.int .u64 (pk x y)) ∧ w = w' := by
  have c1 : ∀ w, (convert 50 3 (.float .f64 r)).run Try.prog w = .ok (.int .i64 x) w := fun w => run_convert_float_int w 50 3 .f64 .i64 r x (by rw [Try.underlying50]; rfl) Try.underlying3 (Flo.fb_int hr hx)
  have c2 : ∀ w, (convert 50 3 (.float .f64 i)).run Try.prog w = .ok (.int .i64 y) w := fun w => run_convert_float_int w 50 3 .f64 .i64 i y (by rw [Try.underlying50]; rfl) Try.underlying3 (Flo.fb_int hi hy)
  clear hr hi hx hy
  go_enter Try.func29, Try.ntmps29
  go_wp2_with (fail)
  refine (pack_any _ _ _).mono ?_
  rintro e w' ⟨rfl, rfl⟩
  go_wp2
  go_ret
  exact ⟨rfl, rfl⟩

theorem fb_part (x : Int) (h : -32768 ≤ x ∧ x ≤ 32767) : Flo.Fb (floatOfInt .f64 x) x := Flo.fb_of x (by omega)

set_option maxHeartbeats 400000 in
theorem add_any (a b : Int) (h0 : 0 ≤ a) (h1 : 0 ≤ b) (w : World) :
    Calls Try.prog 18 #[.int .u64 a, .int .u64 b] w fun e w' => e = .returned (.int .u64 (addw a b)) ∧ Grown w w' := by
  have ba := re_bd a
  have bb := re_bd b
  have ca := im_bd a
  have cb := im_bd b
  obtain ⟨r, i, he, fr, fi⟩ := Flo.c_add (fb_part _ ba) (fb_part _ ca) (fb_part _ bb) (fb_part _ cb) (by omega) (by omega)
  have hw := fun w => word_any r i _ _ fr fi (by omega) (by omega) w
  have hrun : ∀ w, (binOp .add 48 (.complex .f64 (floatOfInt .f64 (re a)) (floatOfInt .f64 (im a))) (.complex .f64 (floatOfInt .f64 (re b)) (floatOfInt .f64 (im b)))).run Try.prog w = .ok (.complex .f64 r i) w :=
    fun w => run_complex_sum w .add (.inl rfl) 48 .f64 _ _ _ _ r i he
  have HW := Lib.hid hw
  clear hw he fr fi ba bb ca cb
  go_enter Try.func18, Try.ntmps18
  go_wp2_with (fail)
  refine (number_any a h0 _).mono ?_
  rintro e w1 ⟨rfl, hg⟩
  go_wp2_with (fail)
  refine (number_any b h1 _).mono ?_
  rintro e w2 ⟨rfl, hg2⟩
  go_wp2_with (fail)
  refine (HW.out _).mono ?_
  rintro e w' ⟨rfl, rfl⟩
  go_wp2
  go_ret
  exact ⟨rfl, grown_trans hg hg2⟩

set_option maxHeartbeats 400000 in
theorem mul_any (a b : Int) (h0 : 0 ≤ a) (h1 : 0 ≤ b) (w : World) :
    Calls Try.prog 20 #[.int .u64 a, .int .u64 b] w fun e w' => e = .returned (.int .u64 (mulw a b)) ∧ Grown w w' := by
  have ba := re_bd a
  have bb := re_bd b
  have ca := im_bd a
  have cb := im_bd b
  have m1 := mul_bd ba bb
  have m2 := mul_bd ca cb
  have m3 := mul_bd ba cb
  have m4 := mul_bd ca bb
  obtain ⟨r, i, he, fr, fi⟩ := Flo.c_mul (fb_part _ ba) (fb_part _ ca) (fb_part _ bb) (fb_part _ cb) (by omega) (by omega) (by omega) (by omega) (by omega) (by omega)
  have hw := fun w => word_any r i _ _ fr fi (by omega) (by omega) w
  have hrun : ∀ w, (binOp .mul 48 (.complex .f64 (floatOfInt .f64 (re a)) (floatOfInt .f64 (im a))) (.complex .f64 (floatOfInt .f64 (re b)) (floatOfInt .f64 (im b)))).run Try.prog w = .ok (.complex .f64 r i) w :=
    fun w => run_complex_mul w 48 _ _ _ _ r i he
  have HW := Lib.hid hw
  clear hw he fr fi ba bb ca cb m1 m2 m3 m4
  go_enter Try.func20, Try.ntmps20
  go_wp2_with (fail)
  refine (number_any a h0 _).mono ?_
  rintro e w1 ⟨rfl, hg⟩
  go_wp2_with (fail)
  refine (number_any b h1 _).mono ?_
  rintro e w2 ⟨rfl, hg2⟩
  go_wp2_with (fail)
  refine (HW.out _).mono ?_
  rintro e w' ⟨rfl, rfl⟩
  go_wp2
  go_ret
  exact ⟨rfl, grown_trans hg hg2⟩

theorem run_neg_float (b : Nat) : Op.unary .neg (.float .f64 b) = pure (.float .f64 (Op.negFloat .f64 b)) := rfl

set_option maxHeartbeats 400000 in
theorem conj_any (a : Int) (h0 : 0 ≤ a) (w : World) :
    Calls Try.prog 22 #[.int .u64 a] w fun e w' => e = .returned (.int .u64 (cnj a)) ∧ Grown w w' := by
  have ba := re_bd a
  have ca := im_bd a
  have hw := fun w => word_any _ _ _ _ (fb_part _ ba) (Flo.fb_neg (fb_part _ ca)) (by omega) (by omega) w
  have HW := Lib.hid hw
  have hneg := run_neg_float
  clear hw ba ca
  go_enter Try.func22, Try.ntmps22
  go_wp2_with (fail)
  refine (number_any a h0 _).mono ?_
  rintro e w1 ⟨rfl, hg⟩
  go_wp2_with (fail)
  refine (HW.out _).mono ?_
  rintro e w' ⟨rfl, rfl⟩
  go_wp2
  go_ret
  exact ⟨rfl, hg⟩

set_option maxHeartbeats 400000 in
theorem shown_any (w : World) : Calls Try.prog 11 #[] w fun e w' => e = .returned (.bool true) ∧ Grown w w' := by
  have e1 : re (mulw (pk 0 1) (pk 0 1)) = -1 := by decide
  have e2 : im (mulw (pk 0 1) (pk 0 1)) = 0 := by decide
  have hp := fun w => parts_any (mulw (pk 0 1) (pk 0 1)) (mulw_nn _ _) w
  rw [e1, e2] at hp
  have HP := Lib.hid hp
  clear hp e1 e2
  go_enter Try.func11, Try.ntmps11
  go_wp2_with (fail)
  refine (pack_any _ _ _).mono ?_
  rintro e w1 ⟨rfl, rfl⟩
  go_wp2_with (fail)
  refine (pack_any _ _ _).mono ?_
  rintro e w1 ⟨rfl, rfl⟩
  go_wp2_with (fail)
  refine (mul_any _ _ (pk_nn _ _) (pk_nn _ _) _).mono ?_
  rintro e w1 ⟨rfl, hg⟩
  go_wp2_with (fail)
  refine (HP.out _).mono ?_
  rintro e w2 ⟨rfl, hg2⟩
  go_wp2
  go_ret
  exact ⟨rfl, grown_trans hg hg2⟩

end Go.Proofs.Ytiihhgpmkodjmaa
