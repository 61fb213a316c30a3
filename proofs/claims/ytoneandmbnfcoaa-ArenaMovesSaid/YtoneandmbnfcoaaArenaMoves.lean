/- The statement ArenaMoves is proved for every input, from contracts of the functions that it calls; no condition is added. -/
import Derived.Test.YtoneandmbnfcoaaPur
namespace Go.Proofs.Ytoneandmbnfcoaa.LArenaMoves
open Go.Joins Go.ChangeShapes Go.WideShapes Go.ChangeAt Go.RowKit Go.Deep
set_option linter.unusedVariables false
set_option linter.unusedSimpArgs false

set_option maxHeartbeats 2000000 in
theorem walk_no (NM : Int) (AM0 AM1 : Option Addr) (nM0 nM1 cM0 cM1 : Nat) (xsM ysM : List Int) (a : Int) (b : Int) (k : Int) (i : Int) (x : Int) (hfew : few NM nM0 nM1 = false) (w : World) :
    Calls Try.prog 6 #[.agg #[.int .i64 NM, .slice AM0 nM0 cM0, .slice AM1 nM1 cM1, .int .u64 a, .int .u64 b, .int .i64 k, .int .i64 i, .int .u64 x]] w fun e w' => e = .returned (.bool true) ∧ Up w w' := by
  have hf := fun w => few_any NM AM0 AM1 nM0 nM1 cM0 cM1 w
  rw [hfew] at hf
  have hf := Lib.hid hf
  clear hfew
  go_enter Try.func6, Try.ntmps6
  go_wp2_with (fail)
  refine (shown_any _).mono ?_
  rintro e w1 ⟨rfl, h1⟩
  have D1 := (Blk.new _ 25 _).up h1
  simp at D1
  have U1 : Up w w1 := (((Up.refl w).alloc _).alloc _).trans h1
  clear h1
  have D1c := D1.cell
  have D1l := D1.lt
  have D1f := D1.frozen
  go_wp2_with (fail)
  refine (hf.out _).mono ?_
  rintro e w2 ⟨rfl, h2⟩
  have D2 := D1.up h2
  have U2 : Up w w2 := U1.trans h2
  clear h2 D1 D1c D1f U1
  have D2c := D2.cell
  have D2l := D2.lt
  have D2f := D2.frozen
  go_wp2
  go_ret
  exact ⟨rfl, U2⟩

set_option maxHeartbeats 4000000 in
theorem walk_ref (m : Me) (P Q : Addr) (c d : Nat) (a : Int) (b : Int) (k : Int) (i : Int) (x : Int) (w : World) (hm : Sits w m P Q c d) (hn : m.n ≤ 200) (ha : U64 a) (hb : U64 b) (hk : I64 k) (hi : I64 i) (hx : U64 x) (hmv : m.mve a b k ≠ 0) :
    Calls Try.prog 6 #[.agg #[.int .i64 m.n, .slice (some P) m.n c, .slice (some Q) m.n d, .int .u64 a, .int .u64 b, .int .i64 k, .int .i64 i, .int .u64 x]] w fun e w' => e = .returned (.bool true) ∧ Up w w' := by
  have hfew : few m.n m.n m.n = true := by unfold few rt; simp; have := hm.1.1; omega
  have hf := fun w => few_any m.n (some P) (some Q) m.n m.n c d w
  rw [hfew] at hf
  have hf := Lib.hid hf
  have hok := Lib.hid hm.1
  have HM := Lib.hid hm
  clear hfew hm
  have h1 := Lib.hid (fun (W : World) (hS : Sits W m P Q c d) => show Calls Try.prog 19 #[.agg #[.int .i64 m.n, .slice (some P) m.n c, .slice (some Q) m.n d], .int .u64 a, .int .u64 b, .int .i64 k] W (Gives1 W (m) (.int .i64 (m.mve a b k))) from by
    have h := move_any m a b k P Q c d W hS ha hb hk
    rw [mv_no hmv] at h
    exact h)
  have hz : (m.mve a b k != 0) = true := bne_iff_ne.mpr hmv
  generalize m.mve a b k = z at h1 hz
  clear hmv
  go_enter Try.func6, Try.ntmps6
  go_wp2_with (fail)
  refine (shown_any _).mono ?_
  rintro e w1 ⟨rfl, h1⟩
  have D1 := (Blk.new _ 25 _).up h1
  simp at D1
  have U1 : Up w w1 := (((Up.refl w).alloc _).alloc _).trans h1
  clear h1
  have D1c := D1.cell
  have D1l := D1.lt
  have D1f := D1.frozen
  go_wp2_with (fail)
  refine (hf.out _).mono ?_
  rintro e w2 ⟨rfl, h2⟩
  have D2 := D1.up h2
  have U2 : Up w w2 := U1.trans h2
  clear h2 D1 D1c D1f U1
  have D2c := D2.cell
  have D2l := D2.lt
  have D2f := D2.frozen
  go_wp2_with (fail)
  refine (h1.out _ (HM.out.up U2)).mono ?_
  rintro e w3 ⟨PK, QK, cK, dK, rfl, sK3, h3⟩
  have D3 := D2.up h3
  have U3 : Up w w3 := U2.trans h3
  clear h3 D2 D2c D2f U2
  have D3c := D3.cell
  have D3l := D3.lt
  have D3f := D3.frozen
  go_wp2
  go_ret
  exact ⟨rfl, (U3.alloc _)⟩

set_option maxHeartbeats 4000000 in
theorem walk_lo_neg (m : Me) (P Q : Addr) (c d : Nat) (a : Int) (b : Int) (k : Int) (i : Int) (x : Int) (w : World) (hm : Sits w m P Q c d) (hn : m.n ≤ 200) (ha : U64 a) (hb : U64 b) (hk : I64 k) (hi : I64 i) (hx : U64 x) (hmv : m.mve a b k = 0) (hx0 : x < b) (hi0 : i < 0) :
    Calls Try.prog 6 #[.agg #[.int .i64 m.n, .slice (some P) m.n c, .slice (some Q) m.n d, .int .u64 a, .int .u64 b, .int .i64 k, .int .i64 i, .int .u64 x]] w fun e w' => e = .returned (.bool true) ∧ Up w w' := by
  have hfew : few m.n m.n m.n = true := by unfold few rt; simp; have := hm.1.1; omega
  have hf := fun w => few_any m.n (some P) (some Q) m.n m.n c d w
  rw [hfew] at hf
  have hf := Lib.hid hf
  have hok := Lib.hid hm.1
  have HM := Lib.hid hm
  clear hfew hm
  have hvk := mve_ok hmv
  have k0 := hvk.1
  have k1 : k ≤ 4096 := by have := hvk.2.1.2.1; have := whp_nn a; have := hok.out.2.1; omega
  have a1 : a ≤ 12884901888 := by have := adr_of hvk.2.1.1; have := hvk.2.1.2.2; have := hok.out.2.1; have := whs_01 a; omega
  have b1 : b ≤ 12884901888 := by have := adr_of hvk.2.2.1; have := hvk.2.2.2.2; have := hok.out.2.1; have := whs_01 b; omega
  have h1 := Lib.hid (fun (W : World) (hS : Sits W m P Q c d) => show Calls Try.prog 19 #[.agg #[.int .i64 m.n, .slice (some P) m.n c, .slice (some Q) m.n d], .int .u64 a, .int .u64 b, .int .i64 k] W (Gives1 W (m.mv a b k) (.int .i64 0)) from by
    have h := move_any m a b k P Q c d W hS ha hb hk
    rw [hmv] at h
    exact h)
  have h2 := Lib.hid (fun (W : World) (hS : Sits W m P Q c d) => show Calls Try.prog 13 #[.agg #[.int .i64 m.n, .slice (some P) m.n c, .slice (some Q) m.n d], .int .u64 x] W (fun e w' => e = .returned (.tuple #[.int .u64 (m.ld x), .int .i64 (m.lde x)]) ∧ Up W w') from by
    have h := load_any (m) x P Q c d W hS hx
    exact h)
  have h3 := Lib.hid (fun (W : World) (P Q : Addr) (c d : Nat) (hS : Sits W (m.mv a b k) P Q c d) => show Calls Try.prog 13 #[.agg #[.int .i64 (m.mv a b k).n, .slice (some P) (m.mv a b k).n c, .slice (some Q) (m.mv a b k).n d], .int .u64 x] W (fun e w' => e = .returned (.tuple #[.int .u64 (m.ld x), .int .i64 (m.lde x)]) ∧ Up W w') from by
    have h := load_any (m.mv a b k) x P Q c d W hS hx
    rw [mv_lde, mv_out hok.out hvk (by omega)] at h
    exact h)
  generalize m.mv a b k = K at h1 h3
  generalize m.ld x = u at h2 h3
  generalize m.lde x = z at h2 h3
  obtain ⟨ha0, ha1⟩ := ha
  obtain ⟨hb0, hb1⟩ := hb
  obtain ⟨hxl, hxh⟩ := hx
  have t0 : decide (b ≤ x) = false := decide_eq_false (by omega)
  clear hvk hmv
  go_enter Try.func6, Try.ntmps6
  go_wp2_with (fail)
  refine (shown_any _).mono ?_
  rintro e w1 ⟨rfl, h1⟩
  have D1 := (Blk.new _ 25 _).up h1
  simp at D1
  have U1 : Up w w1 := (((Up.refl w).alloc _).alloc _).trans h1
  clear h1
  have D1c := D1.cell
  have D1l := D1.lt
  have D1f := D1.frozen
  go_wp2_with (fail)
  refine (hf.out _).mono ?_
  rintro e w2 ⟨rfl, h2⟩
  have D2 := D1.up h2
  have U2 : Up w w2 := U1.trans h2
  clear h2 D1 D1c D1f U1
  have D2c := D2.cell
  have D2l := D2.lt
  have D2f := D2.frozen
  go_wp2_with (fail)
  refine (h1.out _ (HM.out.up U2)).mono ?_
  rintro e w3 ⟨PK, QK, cK, dK, rfl, sK3, h3⟩
  have D3 := D2.up h3
  have U3 : Up w w3 := U2.trans h3
  clear h3 D2 D2c D2f U2
  have D3c := D3.cell
  have D3l := D3.lt
  have D3f := D3.frozen
  go_wp2_with (fail)
  refine (h2.out _ (HM.out.up (U3.alloc _))).mono ?_
  rintro e w4 ⟨rfl, h4⟩
  have D4 := (D3.alloc _).up h4
  have K4 := (Blk.new w3 25 _).up h4
  have nKD4 := Nat.ne_of_gt D3l
  have nDK4 := Nat.ne_of_lt D3l
  have U4 : Up w w4 := (U3.alloc _).trans h4
  have sK4 := (sK3.up ((Up.refl _).alloc _)).up h4
  clear h4 D3 D3c D3f U3 sK3
  have D4c := D4.cell
  have D4l := D4.lt
  have D4f := D4.frozen
  have K4c := K4.cell
  have K4l := K4.lt
  have K4f := K4.frozen
  go_wp2_with (fail)
  refine (h3.out _ _ _ _ _ sK4).mono ?_
  rintro e w5 ⟨rfl, h5⟩
  have D5 := D4.up h5
  have K5 := K4.up h5
  have U5 : Up w w5 := U4.trans h5
  have sK5 := sK4.up h5
  clear h5 D4 D4c D4f K4 K4c K4f U4 sK4
  have D5c := D5.cell
  have D5l := D5.lt
  have D5f := D5.frozen
  have K5c := K5.cell
  have K5l := K5.lt
  have K5f := K5.frozen
  go_wp2
  go_ret
  exact ⟨rfl, U5⟩

set_option maxHeartbeats 4000000 in
theorem walk_lo_big (m : Me) (P Q : Addr) (c d : Nat) (a : Int) (b : Int) (k : Int) (i : Int) (x : Int) (w : World) (hm : Sits w m P Q c d) (hn : m.n ≤ 200) (ha : U64 a) (hb : U64 b) (hk : I64 k) (hi : I64 i) (hx : U64 x) (hmv : m.mve a b k = 0) (hx0 : x < b) (hi0 : 0 ≤ i) (hi1 : k ≤ i) :
    Calls Try.prog 6 #[.agg #[.int .i64 m.n, .slice (some P) m.n c, .slice (some Q) m.n d, .int .u64 a, .int .u64 b, .int .i64 k, .int .i64 i, .int .u64 x]] w fun e w' => e = .returned (.bool true) ∧ Up w w' := by
  have hfew : few m.n m.n m.n = true := by unfold few rt; simp; have := hm.1.1; omega
  have hf := fun w => few_any m.n (some P) (some Q) m.n m.n c d w
  rw [hfew] at hf
  have hf := Lib.hid hf
  have hok := Lib.hid hm.1
  have HM := Lib.hid hm
  clear hfew hm
  have hvk := mve_ok hmv
  have k0 := hvk.1
  have k1 : k ≤ 4096 := by have := hvk.2.1.2.1; have := whp_nn a; have := hok.out.2.1; omega
  have a1 : a ≤ 12884901888 := by have := adr_of hvk.2.1.1; have := hvk.2.1.2.2; have := hok.out.2.1; have := whs_01 a; omega
  have b1 : b ≤ 12884901888 := by have := adr_of hvk.2.2.1; have := hvk.2.2.2.2; have := hok.out.2.1; have := whs_01 b; omega
  have h1 := Lib.hid (fun (W : World) (hS : Sits W m P Q c d) => show Calls Try.prog 19 #[.agg #[.int .i64 m.n, .slice (some P) m.n c, .slice (some Q) m.n d], .int .u64 a, .int .u64 b, .int .i64 k] W (Gives1 W (m.mv a b k) (.int .i64 0)) from by
    have h := move_any m a b k P Q c d W hS ha hb hk
    rw [hmv] at h
    exact h)
  have h2 := Lib.hid (fun (W : World) (hS : Sits W m P Q c d) => show Calls Try.prog 13 #[.agg #[.int .i64 m.n, .slice (some P) m.n c, .slice (some Q) m.n d], .int .u64 x] W (fun e w' => e = .returned (.tuple #[.int .u64 (m.ld x), .int .i64 (m.lde x)]) ∧ Up W w') from by
    have h := load_any (m) x P Q c d W hS hx
    exact h)
  have h3 := Lib.hid (fun (W : World) (P Q : Addr) (c d : Nat) (hS : Sits W (m.mv a b k) P Q c d) => show Calls Try.prog 13 #[.agg #[.int .i64 (m.mv a b k).n, .slice (some P) (m.mv a b k).n c, .slice (some Q) (m.mv a b k).n d], .int .u64 x] W (fun e w' => e = .returned (.tuple #[.int .u64 (m.ld x), .int .i64 (m.lde x)]) ∧ Up W w') from by
    have h := load_any (m.mv a b k) x P Q c d W hS hx
    rw [mv_lde, mv_out hok.out hvk (by omega)] at h
    exact h)
  generalize m.mv a b k = K at h1 h3
  generalize m.ld x = u at h2 h3
  generalize m.lde x = z at h2 h3
  obtain ⟨ha0, ha1⟩ := ha
  obtain ⟨hb0, hb1⟩ := hb
  obtain ⟨hxl, hxh⟩ := hx
  have t0 : decide (b ≤ x) = false := decide_eq_false (by omega)
  have t2 : decide (i < 0) = false := decide_eq_false (by omega)
  have t3 : decide (k ≤ i) = true := decide_eq_true hi1
  clear hvk hmv
  go_enter Try.func6, Try.ntmps6
  go_wp2_with (fail)
  refine (shown_any _).mono ?_
  rintro e w1 ⟨rfl, h1⟩
  have D1 := (Blk.new _ 25 _).up h1
  simp at D1
  have U1 : Up w w1 := (((Up.refl w).alloc _).alloc _).trans h1
  clear h1
  have D1c := D1.cell
  have D1l := D1.lt
  have D1f := D1.frozen
  go_wp2_with (fail)
  refine (hf.out _).mono ?_
  rintro e w2 ⟨rfl, h2⟩
  have D2 := D1.up h2
  have U2 : Up w w2 := U1.trans h2
  clear h2 D1 D1c D1f U1
  have D2c := D2.cell
  have D2l := D2.lt
  have D2f := D2.frozen
  go_wp2_with (fail)
  refine (h1.out _ (HM.out.up U2)).mono ?_
  rintro e w3 ⟨PK, QK, cK, dK, rfl, sK3, h3⟩
  have D3 := D2.up h3
  have U3 : Up w w3 := U2.trans h3
  clear h3 D2 D2c D2f U2
  have D3c := D3.cell
  have D3l := D3.lt
  have D3f := D3.frozen
  go_wp2_with (fail)
  refine (h2.out _ (HM.out.up (U3.alloc _))).mono ?_
  rintro e w4 ⟨rfl, h4⟩
  have D4 := (D3.alloc _).up h4
  have K4 := (Blk.new w3 25 _).up h4
  have nKD4 := Nat.ne_of_gt D3l
  have nDK4 := Nat.ne_of_lt D3l
  have U4 : Up w w4 := (U3.alloc _).trans h4
  have sK4 := (sK3.up ((Up.refl _).alloc _)).up h4
  clear h4 D3 D3c D3f U3 sK3
  have D4c := D4.cell
  have D4l := D4.lt
  have D4f := D4.frozen
  have K4c := K4.cell
  have K4l := K4.lt
  have K4f := K4.frozen
  go_wp2_with (fail)
  refine (h3.out _ _ _ _ _ sK4).mono ?_
  rintro e w5 ⟨rfl, h5⟩
  have D5 := D4.up h5
  have K5 := K4.up h5
  have U5 : Up w w5 := U4.trans h5
  have sK5 := sK4.up h5
  clear h5 D4 D4c D4f K4 K4c K4f U4 sK4
  have D5c := D5.cell
  have D5l := D5.lt
  have D5f := D5.frozen
  have K5c := K5.cell
  have K5l := K5.lt
  have K5f := K5.frozen
  go_wp2
  go_ret
  exact ⟨rfl, U5⟩

set_option maxHeartbeats 4000000 in
theorem walk_lo_ok (m : Me) (P Q : Addr) (c d : Nat) (a : Int) (b : Int) (k : Int) (i : Int) (x : Int) (w : World) (hm : Sits w m P Q c d) (hn : m.n ≤ 200) (ha : U64 a) (hb : U64 b) (hk : I64 k) (hi : I64 i) (hx : U64 x) (hmv : m.mve a b k = 0) (hx0 : x < b) (hi0 : 0 ≤ i) (hi1 : i < k) :
    Calls Try.prog 6 #[.agg #[.int .i64 m.n, .slice (some P) m.n c, .slice (some Q) m.n d, .int .u64 a, .int .u64 b, .int .i64 k, .int .i64 i, .int .u64 x]] w fun e w' => e = .returned (.bool true) ∧ Up w w' := by
  have hfew : few m.n m.n m.n = true := by unfold few rt; simp; have := hm.1.1; omega
  have hf := fun w => few_any m.n (some P) (some Q) m.n m.n c d w
  rw [hfew] at hf
  have hf := Lib.hid hf
  have hok := Lib.hid hm.1
  have HM := Lib.hid hm
  clear hfew hm
  have hvk := mve_ok hmv
  have k0 := hvk.1
  have k1 : k ≤ 4096 := by have := hvk.2.1.2.1; have := whp_nn a; have := hok.out.2.1; omega
  have a1 : a ≤ 12884901888 := by have := adr_of hvk.2.1.1; have := hvk.2.1.2.2; have := hok.out.2.1; have := whs_01 a; omega
  have b1 : b ≤ 12884901888 := by have := adr_of hvk.2.2.1; have := hvk.2.2.2.2; have := hok.out.2.1; have := whs_01 b; omega
  have h1 := Lib.hid (fun (W : World) (hS : Sits W m P Q c d) => show Calls Try.prog 19 #[.agg #[.int .i64 m.n, .slice (some P) m.n c, .slice (some Q) m.n d], .int .u64 a, .int .u64 b, .int .i64 k] W (Gives1 W (m.mv a b k) (.int .i64 0)) from by
    have h := move_any m a b k P Q c d W hS ha hb hk
    rw [hmv] at h
    exact h)
  have h2 := Lib.hid (fun (W : World) (hS : Sits W m P Q c d) => show Calls Try.prog 13 #[.agg #[.int .i64 m.n, .slice (some P) m.n c, .slice (some Q) m.n d], .int .u64 x] W (fun e w' => e = .returned (.tuple #[.int .u64 (m.ld x), .int .i64 (m.lde x)]) ∧ Up W w') from by
    have h := load_any (m) x P Q c d W hS hx
    exact h)
  have h3 := Lib.hid (fun (W : World) (P Q : Addr) (c d : Nat) (hS : Sits W (m.mv a b k) P Q c d) => show Calls Try.prog 13 #[.agg #[.int .i64 (m.mv a b k).n, .slice (some P) (m.mv a b k).n c, .slice (some Q) (m.mv a b k).n d], .int .u64 x] W (fun e w' => e = .returned (.tuple #[.int .u64 (m.ld x), .int .i64 (m.lde x)]) ∧ Up W w') from by
    have h := load_any (m.mv a b k) x P Q c d W hS hx
    rw [mv_lde, mv_out hok.out hvk (by omega)] at h
    exact h)
  obtain ⟨q1, q2, q3⟩ := mv_there hok.out hvk hi0 hi1
  have h4 := Lib.hid (fun (W : World) (hS : Sits W m P Q c d) => show Calls Try.prog 13 #[.agg #[.int .i64 m.n, .slice (some P) m.n c, .slice (some Q) m.n d], .int .u64 (a + i)] W (fun e w' => e = .returned (.tuple #[.int .u64 (m.ld (a + i)), .int .i64 0]) ∧ Up W w') from by
    have h := load_any (m) (a + i) P Q c d W hS ⟨by have := ha.1; omega, by omega⟩
    rw [q1] at h
    exact h)
  have h5 := Lib.hid (fun (W : World) (P Q : Addr) (c d : Nat) (hS : Sits W (m.mv a b k) P Q c d) => show Calls Try.prog 13 #[.agg #[.int .i64 (m.mv a b k).n, .slice (some P) (m.mv a b k).n c, .slice (some Q) (m.mv a b k).n d], .int .u64 (b + i)] W (fun e w' => e = .returned (.tuple #[.int .u64 (m.ld (a + i)), .int .i64 0]) ∧ Up W w') from by
    have h := load_any (m.mv a b k) (b + i) P Q c d W hS ⟨by have := hb.1; omega, by omega⟩
    rw [q3, q2] at h
    exact h)
  clear q1 q2 q3
  generalize m.ld (a + i) = u' at h4 h5
  generalize m.mv a b k = K at h1 h3 h5
  generalize m.ld x = u at h2 h3
  generalize m.lde x = z at h2 h3
  obtain ⟨ha0, ha1⟩ := ha
  obtain ⟨hb0, hb1⟩ := hb
  obtain ⟨hxl, hxh⟩ := hx
  have t0 : decide (b ≤ x) = false := decide_eq_false (by omega)
  have t2 : decide (i < 0) = false := decide_eq_false (by omega)
  have t3 : decide (k ≤ i) = false := decide_eq_false (by omega)
  have i1 : i ≤ 4096 := by omega
  clear hvk hmv
  go_enter Try.func6, Try.ntmps6
  go_wp2_with (fail)
  refine (shown_any _).mono ?_
  rintro e w1 ⟨rfl, h1⟩
  have D1 := (Blk.new _ 25 _).up h1
  simp at D1
  have U1 : Up w w1 := (((Up.refl w).alloc _).alloc _).trans h1
  clear h1
  have D1c := D1.cell
  have D1l := D1.lt
  have D1f := D1.frozen
  go_wp2_with (fail)
  refine (hf.out _).mono ?_
  rintro e w2 ⟨rfl, h2⟩
  have D2 := D1.up h2
  have U2 : Up w w2 := U1.trans h2
  clear h2 D1 D1c D1f U1
  have D2c := D2.cell
  have D2l := D2.lt
  have D2f := D2.frozen
  go_wp2_with (fail)
  refine (h1.out _ (HM.out.up U2)).mono ?_
  rintro e w3 ⟨PK, QK, cK, dK, rfl, sK3, h3⟩
  have D3 := D2.up h3
  have U3 : Up w w3 := U2.trans h3
  clear h3 D2 D2c D2f U2
  have D3c := D3.cell
  have D3l := D3.lt
  have D3f := D3.frozen
  go_wp2_with (fail)
  refine (h2.out _ (HM.out.up (U3.alloc _))).mono ?_
  rintro e w4 ⟨rfl, h4⟩
  have D4 := (D3.alloc _).up h4
  have K4 := (Blk.new w3 25 _).up h4
  have nKD4 := Nat.ne_of_gt D3l
  have nDK4 := Nat.ne_of_lt D3l
  have U4 : Up w w4 := (U3.alloc _).trans h4
  have sK4 := (sK3.up ((Up.refl _).alloc _)).up h4
  clear h4 D3 D3c D3f U3 sK3
  have D4c := D4.cell
  have D4l := D4.lt
  have D4f := D4.frozen
  have K4c := K4.cell
  have K4l := K4.lt
  have K4f := K4.frozen
  go_wp2_with (fail)
  refine (h3.out _ _ _ _ _ sK4).mono ?_
  rintro e w5 ⟨rfl, h5⟩
  have D5 := D4.up h5
  have K5 := K4.up h5
  have U5 : Up w w5 := U4.trans h5
  have sK5 := sK4.up h5
  clear h5 D4 D4c D4f K4 K4c K4f U4 sK4
  have D5c := D5.cell
  have D5l := D5.lt
  have D5f := D5.frozen
  have K5c := K5.cell
  have K5l := K5.lt
  have K5f := K5.frozen
  go_wp2_with (fail)
  refine (h4.out _ (HM.out.up U5)).mono ?_
  rintro e w6 ⟨rfl, h6⟩
  have D6 := D5.up h6
  have K6 := K5.up h6
  have U6 : Up w w6 := U5.trans h6
  have sK6 := sK5.up h6
  clear h6 D5 D5c D5f K5 K5c K5f U5 sK5
  have D6c := D6.cell
  have D6l := D6.lt
  have D6f := D6.frozen
  have K6c := K6.cell
  have K6l := K6.lt
  have K6f := K6.frozen
  go_wp2_with (fail)
  refine (h5.out _ _ _ _ _ sK6).mono ?_
  rintro e w7 ⟨rfl, h7⟩
  have D7 := D6.up h7
  have K7 := K6.up h7
  have U7 : Up w w7 := U6.trans h7
  have sK7 := sK6.up h7
  clear h7 D6 D6c D6f K6 K6c K6f U6 sK6
  have D7c := D7.cell
  have D7l := D7.lt
  have D7f := D7.frozen
  have K7c := K7.cell
  have K7l := K7.lt
  have K7f := K7.frozen
  go_wp2
  go_ret
  exact ⟨rfl, U7⟩

set_option maxHeartbeats 4000000 in
theorem walk_hi_neg (m : Me) (P Q : Addr) (c d : Nat) (a : Int) (b : Int) (k : Int) (i : Int) (x : Int) (w : World) (hm : Sits w m P Q c d) (hn : m.n ≤ 200) (ha : U64 a) (hb : U64 b) (hk : I64 k) (hi : I64 i) (hx : U64 x) (hmv : m.mve a b k = 0) (hx0 : b ≤ x) (hx1 : k ≤ x - b) (hi0 : i < 0) :
    Calls Try.prog 6 #[.agg #[.int .i64 m.n, .slice (some P) m.n c, .slice (some Q) m.n d, .int .u64 a, .int .u64 b, .int .i64 k, .int .i64 i, .int .u64 x]] w fun e w' => e = .returned (.bool true) ∧ Up w w' := by
  have hfew : few m.n m.n m.n = true := by unfold few rt; simp; have := hm.1.1; omega
  have hf := fun w => few_any m.n (some P) (some Q) m.n m.n c d w
  rw [hfew] at hf
  have hf := Lib.hid hf
  have hok := Lib.hid hm.1
  have HM := Lib.hid hm
  clear hfew hm
  have hvk := mve_ok hmv
  have k0 := hvk.1
  have k1 : k ≤ 4096 := by have := hvk.2.1.2.1; have := whp_nn a; have := hok.out.2.1; omega
  have a1 : a ≤ 12884901888 := by have := adr_of hvk.2.1.1; have := hvk.2.1.2.2; have := hok.out.2.1; have := whs_01 a; omega
  have b1 : b ≤ 12884901888 := by have := adr_of hvk.2.2.1; have := hvk.2.2.2.2; have := hok.out.2.1; have := whs_01 b; omega
  have h1 := Lib.hid (fun (W : World) (hS : Sits W m P Q c d) => show Calls Try.prog 19 #[.agg #[.int .i64 m.n, .slice (some P) m.n c, .slice (some Q) m.n d], .int .u64 a, .int .u64 b, .int .i64 k] W (Gives1 W (m.mv a b k) (.int .i64 0)) from by
    have h := move_any m a b k P Q c d W hS ha hb hk
    rw [hmv] at h
    exact h)
  have h2 := Lib.hid (fun (W : World) (hS : Sits W m P Q c d) => show Calls Try.prog 13 #[.agg #[.int .i64 m.n, .slice (some P) m.n c, .slice (some Q) m.n d], .int .u64 x] W (fun e w' => e = .returned (.tuple #[.int .u64 (m.ld x), .int .i64 (m.lde x)]) ∧ Up W w') from by
    have h := load_any (m) x P Q c d W hS hx
    exact h)
  have h3 := Lib.hid (fun (W : World) (P Q : Addr) (c d : Nat) (hS : Sits W (m.mv a b k) P Q c d) => show Calls Try.prog 13 #[.agg #[.int .i64 (m.mv a b k).n, .slice (some P) (m.mv a b k).n c, .slice (some Q) (m.mv a b k).n d], .int .u64 x] W (fun e w' => e = .returned (.tuple #[.int .u64 (m.ld x), .int .i64 (m.lde x)]) ∧ Up W w') from by
    have h := load_any (m.mv a b k) x P Q c d W hS hx
    rw [mv_lde, mv_out hok.out hvk (by omega)] at h
    exact h)
  generalize m.mv a b k = K at h1 h3
  generalize m.ld x = u at h2 h3
  generalize m.lde x = z at h2 h3
  obtain ⟨ha0, ha1⟩ := ha
  obtain ⟨hb0, hb1⟩ := hb
  obtain ⟨hxl, hxh⟩ := hx
  have t1 : decide (x - b < k) = false := decide_eq_false (by omega)
  clear hvk hmv
  go_enter Try.func6, Try.ntmps6
  go_wp2_with (fail)
  refine (shown_any _).mono ?_
  rintro e w1 ⟨rfl, h1⟩
  have D1 := (Blk.new _ 25 _).up h1
  simp at D1
  have U1 : Up w w1 := (((Up.refl w).alloc _).alloc _).trans h1
  clear h1
  have D1c := D1.cell
  have D1l := D1.lt
  have D1f := D1.frozen
  go_wp2_with (fail)
  refine (hf.out _).mono ?_
  rintro e w2 ⟨rfl, h2⟩
  have D2 := D1.up h2
  have U2 : Up w w2 := U1.trans h2
  clear h2 D1 D1c D1f U1
  have D2c := D2.cell
  have D2l := D2.lt
  have D2f := D2.frozen
  go_wp2_with (fail)
  refine (h1.out _ (HM.out.up U2)).mono ?_
  rintro e w3 ⟨PK, QK, cK, dK, rfl, sK3, h3⟩
  have D3 := D2.up h3
  have U3 : Up w w3 := U2.trans h3
  clear h3 D2 D2c D2f U2
  have D3c := D3.cell
  have D3l := D3.lt
  have D3f := D3.frozen
  go_wp2_with (fail)
  refine (h2.out _ (HM.out.up (U3.alloc _))).mono ?_
  rintro e w4 ⟨rfl, h4⟩
  have D4 := (D3.alloc _).up h4
  have K4 := (Blk.new w3 25 _).up h4
  have nKD4 := Nat.ne_of_gt D3l
  have nDK4 := Nat.ne_of_lt D3l
  have U4 : Up w w4 := (U3.alloc _).trans h4
  have sK4 := (sK3.up ((Up.refl _).alloc _)).up h4
  clear h4 D3 D3c D3f U3 sK3
  have D4c := D4.cell
  have D4l := D4.lt
  have D4f := D4.frozen
  have K4c := K4.cell
  have K4l := K4.lt
  have K4f := K4.frozen
  go_wp2_with (fail)
  refine (h3.out _ _ _ _ _ sK4).mono ?_
  rintro e w5 ⟨rfl, h5⟩
  have D5 := D4.up h5
  have K5 := K4.up h5
  have U5 : Up w w5 := U4.trans h5
  have sK5 := sK4.up h5
  clear h5 D4 D4c D4f K4 K4c K4f U4 sK4
  have D5c := D5.cell
  have D5l := D5.lt
  have D5f := D5.frozen
  have K5c := K5.cell
  have K5l := K5.lt
  have K5f := K5.frozen
  go_wp2
  go_ret
  exact ⟨rfl, U5⟩

set_option maxHeartbeats 4000000 in
theorem walk_hi_big (m : Me) (P Q : Addr) (c d : Nat) (a : Int) (b : Int) (k : Int) (i : Int) (x : Int) (w : World) (hm : Sits w m P Q c d) (hn : m.n ≤ 200) (ha : U64 a) (hb : U64 b) (hk : I64 k) (hi : I64 i) (hx : U64 x) (hmv : m.mve a b k = 0) (hx0 : b ≤ x) (hx1 : k ≤ x - b) (hi0 : 0 ≤ i) (hi1 : k ≤ i) :
    Calls Try.prog 6 #[.agg #[.int .i64 m.n, .slice (some P) m.n c, .slice (some Q) m.n d, .int .u64 a, .int .u64 b, .int .i64 k, .int .i64 i, .int .u64 x]] w fun e w' => e = .returned (.bool true) ∧ Up w w' := by
  have hfew : few m.n m.n m.n = true := by unfold few rt; simp; have := hm.1.1; omega
  have hf := fun w => few_any m.n (some P) (some Q) m.n m.n c d w
  rw [hfew] at hf
  have hf := Lib.hid hf
  have hok := Lib.hid hm.1
  have HM := Lib.hid hm
  clear hfew hm
  have hvk := mve_ok hmv
  have k0 := hvk.1
  have k1 : k ≤ 4096 := by have := hvk.2.1.2.1; have := whp_nn a; have := hok.out.2.1; omega
  have a1 : a ≤ 12884901888 := by have := adr_of hvk.2.1.1; have := hvk.2.1.2.2; have := hok.out.2.1; have := whs_01 a; omega
  have b1 : b ≤ 12884901888 := by have := adr_of hvk.2.2.1; have := hvk.2.2.2.2; have := hok.out.2.1; have := whs_01 b; omega
  have h1 := Lib.hid (fun (W : World) (hS : Sits W m P Q c d) => show Calls Try.prog 19 #[.agg #[.int .i64 m.n, .slice (some P) m.n c, .slice (some Q) m.n d], .int .u64 a, .int .u64 b, .int .i64 k] W (Gives1 W (m.mv a b k) (.int .i64 0)) from by
    have h := move_any m a b k P Q c d W hS ha hb hk
    rw [hmv] at h
    exact h)
  have h2 := Lib.hid (fun (W : World) (hS : Sits W m P Q c d) => show Calls Try.prog 13 #[.agg #[.int .i64 m.n, .slice (some P) m.n c, .slice (some Q) m.n d], .int .u64 x] W (fun e w' => e = .returned (.tuple #[.int .u64 (m.ld x), .int .i64 (m.lde x)]) ∧ Up W w') from by
    have h := load_any (m) x P Q c d W hS hx
    exact h)
  have h3 := Lib.hid (fun (W : World) (P Q : Addr) (c d : Nat) (hS : Sits W (m.mv a b k) P Q c d) => show Calls Try.prog 13 #[.agg #[.int .i64 (m.mv a b k).n, .slice (some P) (m.mv a b k).n c, .slice (some Q) (m.mv a b k).n d], .int .u64 x] W (fun e w' => e = .returned (.tuple #[.int .u64 (m.ld x), .int .i64 (m.lde x)]) ∧ Up W w') from by
    have h := load_any (m.mv a b k) x P Q c d W hS hx
    rw [mv_lde, mv_out hok.out hvk (by omega)] at h
    exact h)
  generalize m.mv a b k = K at h1 h3
  generalize m.ld x = u at h2 h3
  generalize m.lde x = z at h2 h3
  obtain ⟨ha0, ha1⟩ := ha
  obtain ⟨hb0, hb1⟩ := hb
  obtain ⟨hxl, hxh⟩ := hx
  have t1 : decide (x - b < k) = false := decide_eq_false (by omega)
  have t2 : decide (i < 0) = false := decide_eq_false (by omega)
  have t3 : decide (k ≤ i) = true := decide_eq_true hi1
  clear hvk hmv
  go_enter Try.func6, Try.ntmps6
  go_wp2_with (fail)
  refine (shown_any _).mono ?_
  rintro e w1 ⟨rfl, h1⟩
  have D1 := (Blk.new _ 25 _).up h1
  simp at D1
  have U1 : Up w w1 := (((Up.refl w).alloc _).alloc _).trans h1
  clear h1
  have D1c := D1.cell
  have D1l := D1.lt
  have D1f := D1.frozen
  go_wp2_with (fail)
  refine (hf.out _).mono ?_
  rintro e w2 ⟨rfl, h2⟩
  have D2 := D1.up h2
  have U2 : Up w w2 := U1.trans h2
  clear h2 D1 D1c D1f U1
  have D2c := D2.cell
  have D2l := D2.lt
  have D2f := D2.frozen
  go_wp2_with (fail)
  refine (h1.out _ (HM.out.up U2)).mono ?_
  rintro e w3 ⟨PK, QK, cK, dK, rfl, sK3, h3⟩
  have D3 := D2.up h3
  have U3 : Up w w3 := U2.trans h3
  clear h3 D2 D2c D2f U2
  have D3c := D3.cell
  have D3l := D3.lt
  have D3f := D3.frozen
  go_wp2_with (fail)
  refine (h2.out _ (HM.out.up (U3.alloc _))).mono ?_
  rintro e w4 ⟨rfl, h4⟩
  have D4 := (D3.alloc _).up h4
  have K4 := (Blk.new w3 25 _).up h4
  have nKD4 := Nat.ne_of_gt D3l
  have nDK4 := Nat.ne_of_lt D3l
  have U4 : Up w w4 := (U3.alloc _).trans h4
  have sK4 := (sK3.up ((Up.refl _).alloc _)).up h4
  clear h4 D3 D3c D3f U3 sK3
  have D4c := D4.cell
  have D4l := D4.lt
  have D4f := D4.frozen
  have K4c := K4.cell
  have K4l := K4.lt
  have K4f := K4.frozen
  go_wp2_with (fail)
  refine (h3.out _ _ _ _ _ sK4).mono ?_
  rintro e w5 ⟨rfl, h5⟩
  have D5 := D4.up h5
  have K5 := K4.up h5
  have U5 : Up w w5 := U4.trans h5
  have sK5 := sK4.up h5
  clear h5 D4 D4c D4f K4 K4c K4f U4 sK4
  have D5c := D5.cell
  have D5l := D5.lt
  have D5f := D5.frozen
  have K5c := K5.cell
  have K5l := K5.lt
  have K5f := K5.frozen
  go_wp2
  go_ret
  exact ⟨rfl, U5⟩

set_option maxHeartbeats 4000000 in
theorem walk_hi_ok (m : Me) (P Q : Addr) (c d : Nat) (a : Int) (b : Int) (k : Int) (i : Int) (x : Int) (w : World) (hm : Sits w m P Q c d) (hn : m.n ≤ 200) (ha : U64 a) (hb : U64 b) (hk : I64 k) (hi : I64 i) (hx : U64 x) (hmv : m.mve a b k = 0) (hx0 : b ≤ x) (hx1 : k ≤ x - b) (hi0 : 0 ≤ i) (hi1 : i < k) :
    Calls Try.prog 6 #[.agg #[.int .i64 m.n, .slice (some P) m.n c, .slice (some Q) m.n d, .int .u64 a, .int .u64 b, .int .i64 k, .int .i64 i, .int .u64 x]] w fun e w' => e = .returned (.bool true) ∧ Up w w' := by
  have hfew : few m.n m.n m.n = true := by unfold few rt; simp; have := hm.1.1; omega
  have hf := fun w => few_any m.n (some P) (some Q) m.n m.n c d w
  rw [hfew] at hf
  have hf := Lib.hid hf
  have hok := Lib.hid hm.1
  have HM := Lib.hid hm
  clear hfew hm
  have hvk := mve_ok hmv
  have k0 := hvk.1
  have k1 : k ≤ 4096 := by have := hvk.2.1.2.1; have := whp_nn a; have := hok.out.2.1; omega
  have a1 : a ≤ 12884901888 := by have := adr_of hvk.2.1.1; have := hvk.2.1.2.2; have := hok.out.2.1; have := whs_01 a; omega
  have b1 : b ≤ 12884901888 := by have := adr_of hvk.2.2.1; have := hvk.2.2.2.2; have := hok.out.2.1; have := whs_01 b; omega
  have h1 := Lib.hid (fun (W : World) (hS : Sits W m P Q c d) => show Calls Try.prog 19 #[.agg #[.int .i64 m.n, .slice (some P) m.n c, .slice (some Q) m.n d], .int .u64 a, .int .u64 b, .int .i64 k] W (Gives1 W (m.mv a b k) (.int .i64 0)) from by
    have h := move_any m a b k P Q c d W hS ha hb hk
    rw [hmv] at h
    exact h)
  have h2 := Lib.hid (fun (W : World) (hS : Sits W m P Q c d) => show Calls Try.prog 13 #[.agg #[.int .i64 m.n, .slice (some P) m.n c, .slice (some Q) m.n d], .int .u64 x] W (fun e w' => e = .returned (.tuple #[.int .u64 (m.ld x), .int .i64 (m.lde x)]) ∧ Up W w') from by
    have h := load_any (m) x P Q c d W hS hx
    exact h)
  have h3 := Lib.hid (fun (W : World) (P Q : Addr) (c d : Nat) (hS : Sits W (m.mv a b k) P Q c d) => show Calls Try.prog 13 #[.agg #[.int .i64 (m.mv a b k).n, .slice (some P) (m.mv a b k).n c, .slice (some Q) (m.mv a b k).n d], .int .u64 x] W (fun e w' => e = .returned (.tuple #[.int .u64 (m.ld x), .int .i64 (m.lde x)]) ∧ Up W w') from by
    have h := load_any (m.mv a b k) x P Q c d W hS hx
    rw [mv_lde, mv_out hok.out hvk (by omega)] at h
    exact h)
  obtain ⟨q1, q2, q3⟩ := mv_there hok.out hvk hi0 hi1
  have h4 := Lib.hid (fun (W : World) (hS : Sits W m P Q c d) => show Calls Try.prog 13 #[.agg #[.int .i64 m.n, .slice (some P) m.n c, .slice (some Q) m.n d], .int .u64 (a + i)] W (fun e w' => e = .returned (.tuple #[.int .u64 (m.ld (a + i)), .int .i64 0]) ∧ Up W w') from by
    have h := load_any (m) (a + i) P Q c d W hS ⟨by have := ha.1; omega, by omega⟩
    rw [q1] at h
    exact h)
  have h5 := Lib.hid (fun (W : World) (P Q : Addr) (c d : Nat) (hS : Sits W (m.mv a b k) P Q c d) => show Calls Try.prog 13 #[.agg #[.int .i64 (m.mv a b k).n, .slice (some P) (m.mv a b k).n c, .slice (some Q) (m.mv a b k).n d], .int .u64 (b + i)] W (fun e w' => e = .returned (.tuple #[.int .u64 (m.ld (a + i)), .int .i64 0]) ∧ Up W w') from by
    have h := load_any (m.mv a b k) (b + i) P Q c d W hS ⟨by have := hb.1; omega, by omega⟩
    rw [q3, q2] at h
    exact h)
  clear q1 q2 q3
  generalize m.ld (a + i) = u' at h4 h5
  generalize m.mv a b k = K at h1 h3 h5
  generalize m.ld x = u at h2 h3
  generalize m.lde x = z at h2 h3
  obtain ⟨ha0, ha1⟩ := ha
  obtain ⟨hb0, hb1⟩ := hb
  obtain ⟨hxl, hxh⟩ := hx
  have t1 : decide (x - b < k) = false := decide_eq_false (by omega)
  have t2 : decide (i < 0) = false := decide_eq_false (by omega)
  have t3 : decide (k ≤ i) = false := decide_eq_false (by omega)
  have i1 : i ≤ 4096 := by omega
  clear hvk hmv
  go_enter Try.func6, Try.ntmps6
  go_wp2_with (fail)
  refine (shown_any _).mono ?_
  rintro e w1 ⟨rfl, h1⟩
  have D1 := (Blk.new _ 25 _).up h1
  simp at D1
  have U1 : Up w w1 := (((Up.refl w).alloc _).alloc _).trans h1
  clear h1
  have D1c := D1.cell
  have D1l := D1.lt
  have D1f := D1.frozen
  go_wp2_with (fail)
  refine (hf.out _).mono ?_
  rintro e w2 ⟨rfl, h2⟩
  have D2 := D1.up h2
  have U2 : Up w w2 := U1.trans h2
  clear h2 D1 D1c D1f U1
  have D2c := D2.cell
  have D2l := D2.lt
  have D2f := D2.frozen
  go_wp2_with (fail)
  refine (h1.out _ (HM.out.up U2)).mono ?_
  rintro e w3 ⟨PK, QK, cK, dK, rfl, sK3, h3⟩
  have D3 := D2.up h3
  have U3 : Up w w3 := U2.trans h3
  clear h3 D2 D2c D2f U2
  have D3c := D3.cell
  have D3l := D3.lt
  have D3f := D3.frozen
  go_wp2_with (fail)
  refine (h2.out _ (HM.out.up (U3.alloc _))).mono ?_
  rintro e w4 ⟨rfl, h4⟩
  have D4 := (D3.alloc _).up h4
  have K4 := (Blk.new w3 25 _).up h4
  have nKD4 := Nat.ne_of_gt D3l
  have nDK4 := Nat.ne_of_lt D3l
  have U4 : Up w w4 := (U3.alloc _).trans h4
  have sK4 := (sK3.up ((Up.refl _).alloc _)).up h4
  clear h4 D3 D3c D3f U3 sK3
  have D4c := D4.cell
  have D4l := D4.lt
  have D4f := D4.frozen
  have K4c := K4.cell
  have K4l := K4.lt
  have K4f := K4.frozen
  go_wp2_with (fail)
  refine (h3.out _ _ _ _ _ sK4).mono ?_
  rintro e w5 ⟨rfl, h5⟩
  have D5 := D4.up h5
  have K5 := K4.up h5
  have U5 : Up w w5 := U4.trans h5
  have sK5 := sK4.up h5
  clear h5 D4 D4c D4f K4 K4c K4f U4 sK4
  have D5c := D5.cell
  have D5l := D5.lt
  have D5f := D5.frozen
  have K5c := K5.cell
  have K5l := K5.lt
  have K5f := K5.frozen
  go_wp2_with (fail)
  refine (h4.out _ (HM.out.up U5)).mono ?_
  rintro e w6 ⟨rfl, h6⟩
  have D6 := D5.up h6
  have K6 := K5.up h6
  have U6 : Up w w6 := U5.trans h6
  have sK6 := sK5.up h6
  clear h6 D5 D5c D5f K5 K5c K5f U5 sK5
  have D6c := D6.cell
  have D6l := D6.lt
  have D6f := D6.frozen
  have K6c := K6.cell
  have K6l := K6.lt
  have K6f := K6.frozen
  go_wp2_with (fail)
  refine (h5.out _ _ _ _ _ sK6).mono ?_
  rintro e w7 ⟨rfl, h7⟩
  have D7 := D6.up h7
  have K7 := K6.up h7
  have U7 : Up w w7 := U6.trans h7
  have sK7 := sK6.up h7
  clear h7 D6 D6c D6f K6 K6c K6f U6 sK6
  have D7c := D7.cell
  have D7l := D7.lt
  have D7f := D7.frozen
  have K7c := K7.cell
  have K7l := K7.lt
  have K7f := K7.frozen
  go_wp2
  go_ret
  exact ⟨rfl, U7⟩

set_option maxHeartbeats 4000000 in
theorem walk_in_neg (m : Me) (P Q : Addr) (c d : Nat) (a : Int) (b : Int) (k : Int) (i : Int) (x : Int) (w : World) (hm : Sits w m P Q c d) (hn : m.n ≤ 200) (ha : U64 a) (hb : U64 b) (hk : I64 k) (hi : I64 i) (hx : U64 x) (hmv : m.mve a b k = 0) (hx0 : b ≤ x) (hx1 : x - b < k) (hi0 : i < 0) :
    Calls Try.prog 6 #[.agg #[.int .i64 m.n, .slice (some P) m.n c, .slice (some Q) m.n d, .int .u64 a, .int .u64 b, .int .i64 k, .int .i64 i, .int .u64 x]] w fun e w' => e = .returned (.bool true) ∧ Up w w' := by
  have hfew : few m.n m.n m.n = true := by unfold few rt; simp; have := hm.1.1; omega
  have hf := fun w => few_any m.n (some P) (some Q) m.n m.n c d w
  rw [hfew] at hf
  have hf := Lib.hid hf
  have hok := Lib.hid hm.1
  have HM := Lib.hid hm
  clear hfew hm
  have hvk := mve_ok hmv
  have k0 := hvk.1
  have k1 : k ≤ 4096 := by have := hvk.2.1.2.1; have := whp_nn a; have := hok.out.2.1; omega
  have a1 : a ≤ 12884901888 := by have := adr_of hvk.2.1.1; have := hvk.2.1.2.2; have := hok.out.2.1; have := whs_01 a; omega
  have b1 : b ≤ 12884901888 := by have := adr_of hvk.2.2.1; have := hvk.2.2.2.2; have := hok.out.2.1; have := whs_01 b; omega
  have h1 := Lib.hid (fun (W : World) (hS : Sits W m P Q c d) => show Calls Try.prog 19 #[.agg #[.int .i64 m.n, .slice (some P) m.n c, .slice (some Q) m.n d], .int .u64 a, .int .u64 b, .int .i64 k] W (Gives1 W (m.mv a b k) (.int .i64 0)) from by
    have h := move_any m a b k P Q c d W hS ha hb hk
    rw [hmv] at h
    exact h)
  have h2 := Lib.hid (fun (W : World) (hS : Sits W m P Q c d) => show Calls Try.prog 13 #[.agg #[.int .i64 m.n, .slice (some P) m.n c, .slice (some Q) m.n d], .int .u64 x] W (fun e w' => e = .returned (.tuple #[.int .u64 (m.ld x), .int .i64 (m.lde x)]) ∧ Up W w') from by
    have h := load_any (m) x P Q c d W hS hx
    exact h)
  have h3 := Lib.hid (fun (W : World) (P Q : Addr) (c d : Nat) (hS : Sits W (m.mv a b k) P Q c d) => show Calls Try.prog 13 #[.agg #[.int .i64 (m.mv a b k).n, .slice (some P) (m.mv a b k).n c, .slice (some Q) (m.mv a b k).n d], .int .u64 x] W (fun e w' => e = .returned (.tuple #[.int .u64 ((m.mv a b k).ld x), .int .i64 (m.lde x)]) ∧ Up W w') from by
    have h := load_any (m.mv a b k) x P Q c d W hS hx
    rw [mv_lde] at h
    exact h)
  generalize (m.mv a b k).ld x = u2 at h3
  generalize m.mv a b k = K at h1 h3
  generalize m.ld x = u at h2
  generalize m.lde x = z at h2 h3
  obtain ⟨ha0, ha1⟩ := ha
  obtain ⟨hb0, hb1⟩ := hb
  obtain ⟨hxl, hxh⟩ := hx
  have t1 : decide (x - b < k) = true := decide_eq_true hx1
  clear hvk hmv
  go_enter Try.func6, Try.ntmps6
  go_wp2_with (fail)
  refine (shown_any _).mono ?_
  rintro e w1 ⟨rfl, h1⟩
  have D1 := (Blk.new _ 25 _).up h1
  simp at D1
  have U1 : Up w w1 := (((Up.refl w).alloc _).alloc _).trans h1
  clear h1
  have D1c := D1.cell
  have D1l := D1.lt
  have D1f := D1.frozen
  go_wp2_with (fail)
  refine (hf.out _).mono ?_
  rintro e w2 ⟨rfl, h2⟩
  have D2 := D1.up h2
  have U2 : Up w w2 := U1.trans h2
  clear h2 D1 D1c D1f U1
  have D2c := D2.cell
  have D2l := D2.lt
  have D2f := D2.frozen
  go_wp2_with (fail)
  refine (h1.out _ (HM.out.up U2)).mono ?_
  rintro e w3 ⟨PK, QK, cK, dK, rfl, sK3, h3⟩
  have D3 := D2.up h3
  have U3 : Up w w3 := U2.trans h3
  clear h3 D2 D2c D2f U2
  have D3c := D3.cell
  have D3l := D3.lt
  have D3f := D3.frozen
  go_wp2_with (fail)
  refine (h2.out _ (HM.out.up (U3.alloc _))).mono ?_
  rintro e w4 ⟨rfl, h4⟩
  have D4 := (D3.alloc _).up h4
  have K4 := (Blk.new w3 25 _).up h4
  have nKD4 := Nat.ne_of_gt D3l
  have nDK4 := Nat.ne_of_lt D3l
  have U4 : Up w w4 := (U3.alloc _).trans h4
  have sK4 := (sK3.up ((Up.refl _).alloc _)).up h4
  clear h4 D3 D3c D3f U3 sK3
  have D4c := D4.cell
  have D4l := D4.lt
  have D4f := D4.frozen
  have K4c := K4.cell
  have K4l := K4.lt
  have K4f := K4.frozen
  go_wp2_with (fail)
  refine (h3.out _ _ _ _ _ sK4).mono ?_
  rintro e w5 ⟨rfl, h5⟩
  have D5 := D4.up h5
  have K5 := K4.up h5
  have U5 : Up w w5 := U4.trans h5
  have sK5 := sK4.up h5
  clear h5 D4 D4c D4f K4 K4c K4f U4 sK4
  have D5c := D5.cell
  have D5l := D5.lt
  have D5f := D5.frozen
  have K5c := K5.cell
  have K5l := K5.lt
  have K5f := K5.frozen
  go_wp2
  go_ret
  exact ⟨rfl, U5⟩

set_option maxHeartbeats 4000000 in
theorem walk_in_big (m : Me) (P Q : Addr) (c d : Nat) (a : Int) (b : Int) (k : Int) (i : Int) (x : Int) (w : World) (hm : Sits w m P Q c d) (hn : m.n ≤ 200) (ha : U64 a) (hb : U64 b) (hk : I64 k) (hi : I64 i) (hx : U64 x) (hmv : m.mve a b k = 0) (hx0 : b ≤ x) (hx1 : x - b < k) (hi0 : 0 ≤ i) (hi1 : k ≤ i) :
    Calls Try.prog 6 #[.agg #[.int .i64 m.n, .slice (some P) m.n c, .slice (some Q) m.n d, .int .u64 a, .int .u64 b, .int .i64 k, .int .i64 i, .int .u64 x]] w fun e w' => e = .returned (.bool true) ∧ Up w w' := by
  have hfew : few m.n m.n m.n = true := by unfold few rt; simp; have := hm.1.1; omega
  have hf := fun w => few_any m.n (some P) (some Q) m.n m.n c d w
  rw [hfew] at hf
  have hf := Lib.hid hf
  have hok := Lib.hid hm.1
  have HM := Lib.hid hm
  clear hfew hm
  have hvk := mve_ok hmv
  have k0 := hvk.1
  have k1 : k ≤ 4096 := by have := hvk.2.1.2.1; have := whp_nn a; have := hok.out.2.1; omega
  have a1 : a ≤ 12884901888 := by have := adr_of hvk.2.1.1; have := hvk.2.1.2.2; have := hok.out.2.1; have := whs_01 a; omega
  have b1 : b ≤ 12884901888 := by have := adr_of hvk.2.2.1; have := hvk.2.2.2.2; have := hok.out.2.1; have := whs_01 b; omega
  have h1 := Lib.hid (fun (W : World) (hS : Sits W m P Q c d) => show Calls Try.prog 19 #[.agg #[.int .i64 m.n, .slice (some P) m.n c, .slice (some Q) m.n d], .int .u64 a, .int .u64 b, .int .i64 k] W (Gives1 W (m.mv a b k) (.int .i64 0)) from by
    have h := move_any m a b k P Q c d W hS ha hb hk
    rw [hmv] at h
    exact h)
  have h2 := Lib.hid (fun (W : World) (hS : Sits W m P Q c d) => show Calls Try.prog 13 #[.agg #[.int .i64 m.n, .slice (some P) m.n c, .slice (some Q) m.n d], .int .u64 x] W (fun e w' => e = .returned (.tuple #[.int .u64 (m.ld x), .int .i64 (m.lde x)]) ∧ Up W w') from by
    have h := load_any (m) x P Q c d W hS hx
    exact h)
  have h3 := Lib.hid (fun (W : World) (P Q : Addr) (c d : Nat) (hS : Sits W (m.mv a b k) P Q c d) => show Calls Try.prog 13 #[.agg #[.int .i64 (m.mv a b k).n, .slice (some P) (m.mv a b k).n c, .slice (some Q) (m.mv a b k).n d], .int .u64 x] W (fun e w' => e = .returned (.tuple #[.int .u64 ((m.mv a b k).ld x), .int .i64 (m.lde x)]) ∧ Up W w') from by
    have h := load_any (m.mv a b k) x P Q c d W hS hx
    rw [mv_lde] at h
    exact h)
  generalize (m.mv a b k).ld x = u2 at h3
  generalize m.mv a b k = K at h1 h3
  generalize m.ld x = u at h2
  generalize m.lde x = z at h2 h3
  obtain ⟨ha0, ha1⟩ := ha
  obtain ⟨hb0, hb1⟩ := hb
  obtain ⟨hxl, hxh⟩ := hx
  have t1 : decide (x - b < k) = true := decide_eq_true hx1
  have t2 : decide (i < 0) = false := decide_eq_false (by omega)
  have t3 : decide (k ≤ i) = true := decide_eq_true hi1
  clear hvk hmv
  go_enter Try.func6, Try.ntmps6
  go_wp2_with (fail)
  refine (shown_any _).mono ?_
  rintro e w1 ⟨rfl, h1⟩
  have D1 := (Blk.new _ 25 _).up h1
  simp at D1
  have U1 : Up w w1 := (((Up.refl w).alloc _).alloc _).trans h1
  clear h1
  have D1c := D1.cell
  have D1l := D1.lt
  have D1f := D1.frozen
  go_wp2_with (fail)
  refine (hf.out _).mono ?_
  rintro e w2 ⟨rfl, h2⟩
  have D2 := D1.up h2
  have U2 : Up w w2 := U1.trans h2
  clear h2 D1 D1c D1f U1
  have D2c := D2.cell
  have D2l := D2.lt
  have D2f := D2.frozen
  go_wp2_with (fail)
  refine (h1.out _ (HM.out.up U2)).mono ?_
  rintro e w3 ⟨PK, QK, cK, dK, rfl, sK3, h3⟩
  have D3 := D2.up h3
  have U3 : Up w w3 := U2.trans h3
  clear h3 D2 D2c D2f U2
  have D3c := D3.cell
  have D3l := D3.lt
  have D3f := D3.frozen
  go_wp2_with (fail)
  refine (h2.out _ (HM.out.up (U3.alloc _))).mono ?_
  rintro e w4 ⟨rfl, h4⟩
  have D4 := (D3.alloc _).up h4
  have K4 := (Blk.new w3 25 _).up h4
  have nKD4 := Nat.ne_of_gt D3l
  have nDK4 := Nat.ne_of_lt D3l
  have U4 : Up w w4 := (U3.alloc _).trans h4
  have sK4 := (sK3.up ((Up.refl _).alloc _)).up h4
  clear h4 D3 D3c D3f U3 sK3
  have D4c := D4.cell
  have D4l := D4.lt
  have D4f := D4.frozen
  have K4c := K4.cell
  have K4l := K4.lt
  have K4f := K4.frozen
  go_wp2_with (fail)
  refine (h3.out _ _ _ _ _ sK4).mono ?_
  rintro e w5 ⟨rfl, h5⟩
  have D5 := D4.up h5
  have K5 := K4.up h5
  have U5 : Up w w5 := U4.trans h5
  have sK5 := sK4.up h5
  clear h5 D4 D4c D4f K4 K4c K4f U4 sK4
  have D5c := D5.cell
  have D5l := D5.lt
  have D5f := D5.frozen
  have K5c := K5.cell
  have K5l := K5.lt
  have K5f := K5.frozen
  go_wp2
  go_ret
  exact ⟨rfl, U5⟩

set_option maxHeartbeats 4000000 in
theorem walk_in_ok (m : Me) (P Q : Addr) (c d : Nat) (a : Int) (b : Int) (k : Int) (i : Int) (x : Int) (w : World) (hm : Sits w m P Q c d) (hn : m.n ≤ 200) (ha : U64 a) (hb : U64 b) (hk : I64 k) (hi : I64 i) (hx : U64 x) (hmv : m.mve a b k = 0) (hx0 : b ≤ x) (hx1 : x - b < k) (hi0 : 0 ≤ i) (hi1 : i < k) :
    Calls Try.prog 6 #[.agg #[.int .i64 m.n, .slice (some P) m.n c, .slice (some Q) m.n d, .int .u64 a, .int .u64 b, .int .i64 k, .int .i64 i, .int .u64 x]] w fun e w' => e = .returned (.bool true) ∧ Up w w' := by
  have hfew : few m.n m.n m.n = true := by unfold few rt; simp; have := hm.1.1; omega
  have hf := fun w => few_any m.n (some P) (some Q) m.n m.n c d w
  rw [hfew] at hf
  have hf := Lib.hid hf
  have hok := Lib.hid hm.1
  have HM := Lib.hid hm
  clear hfew hm
  have hvk := mve_ok hmv
  have k0 := hvk.1
  have k1 : k ≤ 4096 := by have := hvk.2.1.2.1; have := whp_nn a; have := hok.out.2.1; omega
  have a1 : a ≤ 12884901888 := by have := adr_of hvk.2.1.1; have := hvk.2.1.2.2; have := hok.out.2.1; have := whs_01 a; omega
  have b1 : b ≤ 12884901888 := by have := adr_of hvk.2.2.1; have := hvk.2.2.2.2; have := hok.out.2.1; have := whs_01 b; omega
  have h1 := Lib.hid (fun (W : World) (hS : Sits W m P Q c d) => show Calls Try.prog 19 #[.agg #[.int .i64 m.n, .slice (some P) m.n c, .slice (some Q) m.n d], .int .u64 a, .int .u64 b, .int .i64 k] W (Gives1 W (m.mv a b k) (.int .i64 0)) from by
    have h := move_any m a b k P Q c d W hS ha hb hk
    rw [hmv] at h
    exact h)
  have h2 := Lib.hid (fun (W : World) (hS : Sits W m P Q c d) => show Calls Try.prog 13 #[.agg #[.int .i64 m.n, .slice (some P) m.n c, .slice (some Q) m.n d], .int .u64 x] W (fun e w' => e = .returned (.tuple #[.int .u64 (m.ld x), .int .i64 (m.lde x)]) ∧ Up W w') from by
    have h := load_any (m) x P Q c d W hS hx
    exact h)
  have h3 := Lib.hid (fun (W : World) (P Q : Addr) (c d : Nat) (hS : Sits W (m.mv a b k) P Q c d) => show Calls Try.prog 13 #[.agg #[.int .i64 (m.mv a b k).n, .slice (some P) (m.mv a b k).n c, .slice (some Q) (m.mv a b k).n d], .int .u64 x] W (fun e w' => e = .returned (.tuple #[.int .u64 ((m.mv a b k).ld x), .int .i64 (m.lde x)]) ∧ Up W w') from by
    have h := load_any (m.mv a b k) x P Q c d W hS hx
    rw [mv_lde] at h
    exact h)
  obtain ⟨q1, q2, q3⟩ := mv_there hok.out hvk hi0 hi1
  have h4 := Lib.hid (fun (W : World) (hS : Sits W m P Q c d) => show Calls Try.prog 13 #[.agg #[.int .i64 m.n, .slice (some P) m.n c, .slice (some Q) m.n d], .int .u64 (a + i)] W (fun e w' => e = .returned (.tuple #[.int .u64 (m.ld (a + i)), .int .i64 0]) ∧ Up W w') from by
    have h := load_any (m) (a + i) P Q c d W hS ⟨by have := ha.1; omega, by omega⟩
    rw [q1] at h
    exact h)
  have h5 := Lib.hid (fun (W : World) (P Q : Addr) (c d : Nat) (hS : Sits W (m.mv a b k) P Q c d) => show Calls Try.prog 13 #[.agg #[.int .i64 (m.mv a b k).n, .slice (some P) (m.mv a b k).n c, .slice (some Q) (m.mv a b k).n d], .int .u64 (b + i)] W (fun e w' => e = .returned (.tuple #[.int .u64 (m.ld (a + i)), .int .i64 0]) ∧ Up W w') from by
    have h := load_any (m.mv a b k) (b + i) P Q c d W hS ⟨by have := hb.1; omega, by omega⟩
    rw [q3, q2] at h
    exact h)
  clear q1 q2 q3
  generalize m.ld (a + i) = u' at h4 h5
  generalize (m.mv a b k).ld x = u2 at h3
  generalize m.mv a b k = K at h1 h3 h5
  generalize m.ld x = u at h2
  generalize m.lde x = z at h2 h3
  obtain ⟨ha0, ha1⟩ := ha
  obtain ⟨hb0, hb1⟩ := hb
  obtain ⟨hxl, hxh⟩ := hx
  have t1 : decide (x - b < k) = true := decide_eq_true hx1
  have t2 : decide (i < 0) = false := decide_eq_false (by omega)
  have t3 : decide (k ≤ i) = false := decide_eq_false (by omega)
  have i1 : i ≤ 4096 := by omega
  clear hvk hmv
  go_enter Try.func6, Try.ntmps6
  go_wp2_with (fail)
  refine (shown_any _).mono ?_
  rintro e w1 ⟨rfl, h1⟩
  have D1 := (Blk.new _ 25 _).up h1
  simp at D1
  have U1 : Up w w1 := (((Up.refl w).alloc _).alloc _).trans h1
  clear h1
  have D1c := D1.cell
  have D1l := D1.lt
  have D1f := D1.frozen
  go_wp2_with (fail)
  refine (hf.out _).mono ?_
  rintro e w2 ⟨rfl, h2⟩
  have D2 := D1.up h2
  have U2 : Up w w2 := U1.trans h2
  clear h2 D1 D1c D1f U1
  have D2c := D2.cell
  have D2l := D2.lt
  have D2f := D2.frozen
  go_wp2_with (fail)
  refine (h1.out _ (HM.out.up U2)).mono ?_
  rintro e w3 ⟨PK, QK, cK, dK, rfl, sK3, h3⟩
  have D3 := D2.up h3
  have U3 : Up w w3 := U2.trans h3
  clear h3 D2 D2c D2f U2
  have D3c := D3.cell
  have D3l := D3.lt
  have D3f := D3.frozen
  go_wp2_with (fail)
  refine (h2.out _ (HM.out.up (U3.alloc _))).mono ?_
  rintro e w4 ⟨rfl, h4⟩
  have D4 := (D3.alloc _).up h4
  have K4 := (Blk.new w3 25 _).up h4
  have nKD4 := Nat.ne_of_gt D3l
  have nDK4 := Nat.ne_of_lt D3l
  have U4 : Up w w4 := (U3.alloc _).trans h4
  have sK4 := (sK3.up ((Up.refl _).alloc _)).up h4
  clear h4 D3 D3c D3f U3 sK3
  have D4c := D4.cell
  have D4l := D4.lt
  have D4f := D4.frozen
  have K4c := K4.cell
  have K4l := K4.lt
  have K4f := K4.frozen
  go_wp2_with (fail)
  refine (h3.out _ _ _ _ _ sK4).mono ?_
  rintro e w5 ⟨rfl, h5⟩
  have D5 := D4.up h5
  have K5 := K4.up h5
  have U5 : Up w w5 := U4.trans h5
  have sK5 := sK4.up h5
  clear h5 D4 D4c D4f K4 K4c K4f U4 sK4
  have D5c := D5.cell
  have D5l := D5.lt
  have D5f := D5.frozen
  have K5c := K5.cell
  have K5l := K5.lt
  have K5f := K5.frozen
  go_wp2_with (fail)
  refine (h4.out _ (HM.out.up U5)).mono ?_
  rintro e w6 ⟨rfl, h6⟩
  have D6 := D5.up h6
  have K6 := K5.up h6
  have U6 : Up w w6 := U5.trans h6
  have sK6 := sK5.up h6
  clear h6 D5 D5c D5f K5 K5c K5f U5 sK5
  have D6c := D6.cell
  have D6l := D6.lt
  have D6f := D6.frozen
  have K6c := K6.cell
  have K6l := K6.lt
  have K6f := K6.frozen
  go_wp2_with (fail)
  refine (h5.out _ _ _ _ _ sK6).mono ?_
  rintro e w7 ⟨rfl, h7⟩
  have D7 := D6.up h7
  have K7 := K6.up h7
  have U7 : Up w w7 := U6.trans h7
  have sK7 := sK6.up h7
  clear h7 D6 D6c D6f K6 K6c K6f U6 sK6
  have D7c := D7.cell
  have D7l := D7.lt
  have D7f := D7.frozen
  have K7c := K7.cell
  have K7l := K7.lt
  have K7f := K7.frozen
  go_wp2
  go_ret
  exact ⟨rfl, U7⟩

theorem walk (NM : Int) (AM0 AM1 : Option Addr) (nM0 nM1 cM0 cM1 : Nat) (xsM ysM : List Int) (a : Int) (b : Int) (k : Int) (i : Int) (x : Int) (w : World) (hxM : SlOk w AM0 nM0 cM0 xsM) (hyM : SlOk w AM1 nM1 cM1 ysM) (ha : U64 a) (hb : U64 b) (hk : I64 k) (hi : I64 i) (hx : U64 x) :
    Calls Try.prog 6 #[.agg #[.int .i64 NM, .slice AM0 nM0 cM0, .slice AM1 nM1 cM1, .int .u64 a, .int .u64 b, .int .i64 k, .int .i64 i, .int .u64 x]] w fun e w' => e = .returned (.bool true) ∧ Up w w' := by
  cases hfew : few NM nM0 nM1
  · exact walk_no NM AM0 AM1 nM0 nM1 cM0 cM1 xsM ysM a b k i x hfew w
  · obtain ⟨rfl, rfl, h16, h200⟩ := few_is hfew
    obtain ⟨P, Q, rfl, rfl, hm⟩ := sits_of hxM hyM h16 (by omega)
    by_cases hmv : (⟨nM0, xsM, ysM⟩ : Me).mve a b k = 0
    · by_cases hx0 : x < b
      · by_cases hi0 : i < 0
        · exact walk_lo_neg ⟨nM0, xsM, ysM⟩ P Q cM0 cM1 a b k i x w hm h200 ha hb hk hi hx hmv hx0 hi0
        · by_cases hi1 : i < k
          · exact walk_lo_ok ⟨nM0, xsM, ysM⟩ P Q cM0 cM1 a b k i x w hm h200 ha hb hk hi hx hmv hx0 (by omega) hi1
          · exact walk_lo_big ⟨nM0, xsM, ysM⟩ P Q cM0 cM1 a b k i x w hm h200 ha hb hk hi hx hmv hx0 (by omega) (by omega)
      · by_cases hx1 : x - b < k
        · by_cases hi0 : i < 0
          · exact walk_in_neg ⟨nM0, xsM, ysM⟩ P Q cM0 cM1 a b k i x w hm h200 ha hb hk hi hx hmv (by omega) hx1 hi0
          · by_cases hi1 : i < k
            · exact walk_in_ok ⟨nM0, xsM, ysM⟩ P Q cM0 cM1 a b k i x w hm h200 ha hb hk hi hx hmv (by omega) hx1 (by omega) hi1
            · exact walk_in_big ⟨nM0, xsM, ysM⟩ P Q cM0 cM1 a b k i x w hm h200 ha hb hk hi hx hmv (by omega) hx1 (by omega) (by omega)
        · by_cases hi0 : i < 0
          · exact walk_hi_neg ⟨nM0, xsM, ysM⟩ P Q cM0 cM1 a b k i x w hm h200 ha hb hk hi hx hmv (by omega) (by omega) hi0
          · by_cases hi1 : i < k
            · exact walk_hi_ok ⟨nM0, xsM, ysM⟩ P Q cM0 cM1 a b k i x w hm h200 ha hb hk hi hx hmv (by omega) (by omega) (by omega) hi1
            · exact walk_hi_big ⟨nM0, xsM, ysM⟩ P Q cM0 cM1 a b k i x w hm h200 ha hb hk hi hx hmv (by omega) (by omega) (by omega) (by omega)
    · exact walk_ref ⟨nM0, xsM, ysM⟩ P Q cM0 cM1 a b k i x w hm h200 ha hb hk hi hx hmv 
theorem cells : Try.prog.cellsOf 56 = 8 := by kernel_rfl
theorem opened {H : Type} {enc : TypeId × Value → H} {w : World} {r : Reach} {b0 : Nat} {vl_ : Value} {d : DataW H} {p : List MemPlace} (hvl_ : Value.okWide Try.prog w r b0 56 vl_) (h_ : DataW.Trod enc Try.prog w 0 (fun _ => true) true 56 vl_ d p) :
    ∃ (NM : Int) (AM0 AM1 : Option Addr) (nM0 nM1 cM0 cM1 : Nat) (xsM ysM : List Int) (a : Int) (b : Int) (k : Int) (i : Int) (x : Int), vl_ = .agg #[.int .i64 NM, .slice AM0 nM0 cM0, .slice AM1 nM1 cM1, .int .u64 a, .int .u64 b, .int .i64 k, .int .i64 i, .int .u64 x] ∧ I64 NM ∧ SlOk w AM0 nM0 cM0 xsM ∧ SlOk w AM1 nM1 cM1 ysM ∧ U64 a ∧ U64 b ∧ I64 k ∧ I64 i ∧ U64 x := by
  obtain ⟨⟨l⟩, rfl, hsz⟩ := okWide_struct Try.underlying56 hvl_
  match l, hsz.trans cells with
  | [z0_, z1_, z2_, z3_, z4_, z5_, z6_, z7_], _ =>
    obtain ⟨fuel, hf_⟩ := h_
    obtain ⟨ys_, n_, _, _, _, hlen_, hg_⟩ := DataW.trod_struct Try.underlying56 hf_
    have f0_ := hg_ 0 _ rfl
    have f1_ := hg_ 1 _ rfl
    have f2_ := hg_ 2 _ rfl
    have f3_ := hg_ 3 _ rfl
    have f4_ := hg_ 4 _ rfl
    have f5_ := hg_ 5 _ rfl
    match ys_, hlen_ with
    | [y0_, y1_, y2_, y3_, y4_, y5_], _ =>
      change DataW.trod enc Try.prog w 0 (fun _ => true) true n_ 25 (([z0_, z1_, z2_, z3_, z4_, z5_, z6_, z7_].drop 0).take (Try.prog.cellsOf 25)) = some y0_ at f0_
      rw [cells_mem] at f0_
      change DataW.trod enc Try.prog w 0 (fun _ => true) true n_ 26 (([z0_, z1_, z2_, z3_, z4_, z5_, z6_, z7_].drop 3).take (Try.prog.cellsOf 26)) = some y1_ at f1_
      rw [cells_u64] at f1_
      change DataW.trod enc Try.prog w 0 (fun _ => true) true n_ 26 (([z0_, z1_, z2_, z3_, z4_, z5_, z6_, z7_].drop 4).take (Try.prog.cellsOf 26)) = some y2_ at f2_
      rw [cells_u64] at f2_
      change DataW.trod enc Try.prog w 0 (fun _ => true) true n_ 3 (([z0_, z1_, z2_, z3_, z4_, z5_, z6_, z7_].drop 5).take (Try.prog.cellsOf 3)) = some y3_ at f3_
      rw [cells_int] at f3_
      change DataW.trod enc Try.prog w 0 (fun _ => true) true n_ 3 (([z0_, z1_, z2_, z3_, z4_, z5_, z6_, z7_].drop 6).take (Try.prog.cellsOf 3)) = some y4_ at f4_
      rw [cells_int] at f4_
      change DataW.trod enc Try.prog w 0 (fun _ => true) true n_ 26 (([z0_, z1_, z2_, z3_, z4_, z5_, z6_, z7_].drop 7).take (Try.prog.cellsOf 26)) = some y5_ at f5_
      rw [cells_u64] at f5_
      obtain ⟨NM, AM0, AM1, nM0, nM1, cM0, cM1, xsM, ysM, rfl, rfl, rfl, hNM, hxM, hyM⟩ := mem_open (v0 := z0_) (v1 := z1_) (v2 := z2_) f0_
      obtain ⟨a, rfl, ha⟩ := u64_open (v := z3_) f1_
      obtain ⟨b, rfl, hb⟩ := u64_open (v := z4_) f2_
      obtain ⟨k, rfl, hk⟩ := int_open (v := z5_) f3_
      obtain ⟨i, rfl, hi⟩ := int_open (v := z6_) f4_
      obtain ⟨x, rfl, hx⟩ := u64_open (v := z7_) f5_
      exact ⟨NM, AM0, AM1, nM0, nM1, cM0, cM1, xsM, ysM, a, b, k, i, x, rfl, hNM, hxM, hyM, ha, hb, hk, hi, hx⟩

theorem own : ownKnob Try.prog.godebug = none := by kernel_rfl
set_option maxRecDepth 100000 in
theorem lifted (os : Os) (started : os.Started) (H : Type) (enc : TypeId × Value → H) :
    ReturnsInHanded {} Try.checked os 6 .any (Rows.arenaMovesSpec.pre6 enc Try.prog Try.f6 Rows.arenaMovesRow.domain false) (Rows.arenaMovesSpec.post enc Try.prog Try.f6 false true false false) := by
  refine returnsInHanded_of_change (C := Try.checked) own started (by kernel_rfl) Try.func6
    (ChangeSpec.witness6 (enc := enc) (C := Try.checked) false ⟨#[], #[.agg #[.int .i64 0, .slice none 0 0, .slice none 0 0, .int .u64 0, .int .u64 0, .int .i64 0, .int .i64 0, .int .u64 0]], []⟩ 8 (by kernel_rfl) (by kernel_rfl) (by kernel_rfl) (by kernel_rfl)) ?_
  intro W base args ds gs before hval0 hW hcnd _
  have hval : ∀ (j : Nat) t v, Try.f6.params[j]? = some t → args[j]? = some v → Value.okWide Try.prog W .any base t v := hval0
  have hW' := hW
  obtain ⟨p, q, hA0, hV, rfl, hfz, hnd⟩ := hW
  have hA : DataW.TrodAll enc Try.prog W 0 (fun _ => true) true Try.f6.params.toList args.toList ds p := hA0
  rw [Try.params6] at hA hval
  obtain ⟨v0, vs0, d0, ds0, p0, q0, hargs, rfl, rfl, h0, r0⟩ := trodAll_cons hA
  obtain ⟨rfl, rfl, rfl⟩ := trodAll_nil r0
  obtain rfl : args = #[v0] := by cases args; simp_all
  obtain ⟨rfl, rfl⟩ := trodVars_none hV
  have h0k := h0
  obtain ⟨NM, AM0, AM1, nM0, nM1, cM0, cM1, xsM, ysM, a, b, k, i, x, rfl, hNM, hxM, hyM, ha, hb, hk, hi, hx⟩ := opened (hval 0 56 v0 rfl rfl) h0
  clear hA0 hval0
  simp only [List.append_nil] at hW'
  refine (walk NM AM0 AM1 nM0 nM1 cM0 cM1 xsM ysM a b k i x W hxM hyM ha hb hk hi hx).mono fun e W' ⟨he, hg⟩ => ?_
  subst he
  exact ⟨_, rfl, post_below (pa := p0) (pv := []) hW' (fun _ _ _ => (trodAll_cons_mk (shut_bool Try.underlying4 _) trodAll_mk0))
    (fun sp hsp => by
      have t := trodAll_cons_mk (trod_keeps (sp := sp) (by kernel_rfl) (of_decide_eq_true (by kernel_rfl)) h0k hg (fun x hx => hW'.lt x hx) (fun x hx => hsp x hx)) trodAll_mk0
      rw [List.append_nil] at t
      exact t) (fun _ _ => rfl) (by simp)
    hg (ok_one (by kernel_rfl) rfl (okWide_bool_mk Try.underlying4 _))⟩

theorem over : Rows.arenaMovesRow.holds Try.pinned (OpenSpec.ofChange Rows.arenaMovesSpec) :=
  OpenClaim.holds_of_wide 6 Try.f6 rfl rfl rfl rfl rfl rfl rfl ⟨rfl, rfl, rfl, rfl, rfl⟩ rfl rfl rfl rfl rfl (by kernel_rfl) Try.func6 (by kernel_rfl)
    (of_decide_eq_true (by kernel_rfl)) (by unfold Func.isWrapper; first | (rw [if_pos (by decide +kernel)]; kernel_rfl) | (rw [if_neg (by decide +kernel)]; exact ⟨rfl, rfl⟩))
    (fun os started H enc _ => lifted os started H enc)

theorem proved : Rows.ArenaMovesSaid :=
  over
#print axioms proved
end Go.Proofs.Ytoneandmbnfcoaa.LArenaMoves
