/- The statement ArenaSwaps is proved for every input, from contracts of the functions that it calls; no condition is added. -/
import Derived.Test.YtoneandmbnfcoaaPur
namespace Go.Proofs.Ytoneandmbnfcoaa.LArenaSwaps
open Go.Joins Go.ChangeShapes Go.WideShapes Go.ChangeAt Go.RowKit Go.Deep
set_option linter.unusedVariables false
set_option linter.unusedSimpArgs false

set_option maxHeartbeats 2000000 in
theorem walk_no (NM : Int) (AM0 AM1 : Option Addr) (nM0 nM1 cM0 cM1 : Nat) (xsM ysM : List Int) (a : Int) (o : Int) (v : Int) (hfew : few NM nM0 nM1 = false) (w : World) :
    Calls Try.prog 7 #[.agg #[.int .i64 NM, .slice AM0 nM0 cM0, .slice AM1 nM1 cM1, .int .u64 a, .int .u64 o, .int .u64 v]] w fun e w' => e = .returned (.bool true) ∧ Up w w' := by
  have hf := fun w => few_any NM AM0 AM1 nM0 nM1 cM0 cM1 w
  rw [hfew] at hf
  have hf := Lib.hid hf
  clear hfew
  go_enter Try.func7, Try.ntmps7
  go_wp2_with (fail)
  refine (shown_any _).mono ?_
  rintro e w1 ⟨rfl, h1⟩
  have D1 := (Blk.new _ 25 _).up h1
  simp at D1
  have U1 : Up w w1 := (((Up.refl w).alloc _).alloc _).trans h1
  clear h1
  have D1c := D1.cell
  have D1l := D1.lt
  have D1f := D1.frozen
  go_wp2_with (fail)
  refine (hf.out _).mono ?_
  rintro e w2 ⟨rfl, h2⟩
  have D2 := D1.up h2
  have U2 : Up w w2 := U1.trans h2
  clear h2 D1 D1c D1f U1
  have D2c := D2.cell
  have D2l := D2.lt
  have D2f := D2.frozen
  go_wp2
  go_ret
  exact ⟨rfl, U2⟩

set_option maxHeartbeats 4000000 in
theorem walk_1 (m : Me) (P Q : Addr) (c d : Nat) (a : Int) (o : Int) (v : Int) (w : World) (hm : Sits w m P Q c d) (hn : m.n ≤ 200) (ha : U64 a) (ho : U64 o) (hv : U64 v) (ta : ¬ m.there a) :
    Calls Try.prog 7 #[.agg #[.int .i64 m.n, .slice (some P) m.n c, .slice (some Q) m.n d, .int .u64 a, .int .u64 o, .int .u64 v]] w fun e w' => e = .returned (.bool true) ∧ Up w w' := by
  have hfew : few m.n m.n m.n = true := by unfold few rt; simp; have := hm.1.1; omega
  have hf := fun w => few_any m.n (some P) (some Q) m.n m.n c d w
  rw [hfew] at hf
  have hf := Lib.hid hf
  have hok := Lib.hid hm.1
  have HM := Lib.hid hm
  clear hfew hm
  have h1 := Lib.hid (fun (W : World) (hS : Sits W m P Q c d) => show Calls Try.prog 13 #[.agg #[.int .i64 m.n, .slice (some P) m.n c, .slice (some Q) m.n d], .int .u64 a] W (fun e w' => e = .returned (.tuple #[.int .u64 0, .int .i64 2]) ∧ Up W w') from by
    have h := load_any (m) a P Q c d W hS ha
    rw [show m.ld a = 0 from if_neg ta, show m.lde a = 2 from if_neg ta] at h
    exact h)
  have h2 := Lib.hid (fun (W : World) (hS : Sits W m P Q c d) => show Calls Try.prog 17 #[.agg #[.int .i64 m.n, .slice (some P) m.n c, .slice (some Q) m.n d], .int .u64 a, .int .u64 o, .int .u64 v] W (Gives2 W (m) (.bool false) (.int .i64 2)) from by
    have h := swap_any (m) a o v P Q c d W hS ha
    rw [show m.sw a o v = m from if_neg (fun q => ta q.1), show m.swb a o = false from decide_eq_false (fun q => ta q.1), show m.lde a = 2 from if_neg ta] at h
    exact h)
  clear ta
  go_enter Try.func7, Try.ntmps7
  go_wp2_with (fail)
  refine (shown_any _).mono ?_
  rintro e w1 ⟨rfl, h1⟩
  have D1 := (Blk.new _ 25 _).up h1
  simp at D1
  have U1 : Up w w1 := (((Up.refl w).alloc _).alloc _).trans h1
  clear h1
  have D1c := D1.cell
  have D1l := D1.lt
  have D1f := D1.frozen
  go_wp2_with (fail)
  refine (hf.out _).mono ?_
  rintro e w2 ⟨rfl, h2⟩
  have D2 := D1.up h2
  have U2 : Up w w2 := U1.trans h2
  clear h2 D1 D1c D1f U1
  have D2c := D2.cell
  have D2l := D2.lt
  have D2f := D2.frozen
  go_wp2_with (fail)
  refine (h1.out _ (HM.out.up U2)).mono ?_
  rintro e w3 ⟨rfl, h3⟩
  have D3 := D2.up h3
  have U3 : Up w w3 := U2.trans h3
  clear h3 D2 D2c D2f U2
  have D3c := D3.cell
  have D3l := D3.lt
  have D3f := D3.frozen
  go_wp2_with (fail)
  refine (h2.out _ (HM.out.up U3)).mono ?_
  rintro e w4 ⟨PK, QK, cK, dK, rfl, sK4, h4⟩
  have D4 := D3.up h4
  have U4 : Up w w4 := U3.trans h4
  clear h4 D3 D3c D3f U3
  have D4c := D4.cell
  have D4l := D4.lt
  have D4f := D4.frozen
  go_wp2
  go_ret
  exact ⟨rfl, (U4.alloc _)⟩

set_option maxHeartbeats 4000000 in
theorem walk_2 (m : Me) (P Q : Addr) (c d : Nat) (a : Int) (o : Int) (w : World) (hm : Sits w m P Q c d) (hn : m.n ≤ 200) (ha : U64 a) (ho : U64 o) (ta : m.there a) (hl : m.ld a = o) :
    Calls Try.prog 7 #[.agg #[.int .i64 m.n, .slice (some P) m.n c, .slice (some Q) m.n d, .int .u64 a, .int .u64 o, .int .u64 o]] w fun e w' => e = .returned (.bool true) ∧ Up w w' := by
  have hfew : few m.n m.n m.n = true := by unfold few rt; simp; have := hm.1.1; omega
  have hf := fun w => few_any m.n (some P) (some Q) m.n m.n c d w
  rw [hfew] at hf
  have hf := Lib.hid hf
  have hok := Lib.hid hm.1
  have HM := Lib.hid hm
  clear hfew hm
  have h1 := Lib.hid (fun (W : World) (hS : Sits W m P Q c d) => show Calls Try.prog 13 #[.agg #[.int .i64 m.n, .slice (some P) m.n c, .slice (some Q) m.n d], .int .u64 a] W (fun e w' => e = .returned (.tuple #[.int .u64 o, .int .i64 0]) ∧ Up W w') from by
    have h := load_any (m) a P Q c d W hS ha
    rw [hl, show m.lde a = 0 from if_pos ta] at h
    exact h)
  have h2 := Lib.hid (fun (W : World) (hS : Sits W m P Q c d) => show Calls Try.prog 17 #[.agg #[.int .i64 m.n, .slice (some P) m.n c, .slice (some Q) m.n d], .int .u64 a, .int .u64 o, .int .u64 o] W (Gives2 W (m.st a o) (.bool true) (.int .i64 0)) from by
    have h := swap_any (m) a o o P Q c d W hS ha
    rw [show m.sw a o o = m.st a o from if_pos ⟨ta, hl⟩, show m.swb a o = true from decide_eq_true ⟨ta, hl⟩, show m.lde a = 0 from if_pos ta] at h
    exact h)
  have tk : (m.st a o).there a := (there_n (Me.st_n m a o) a).2 ta
  have h3 := Lib.hid (fun (W : World) (P Q : Addr) (c d : Nat) (hS : Sits W (m.st a o) P Q c d) => show Calls Try.prog 17 #[.agg #[.int .i64 (m.st a o).n, .slice (some P) (m.st a o).n c, .slice (some Q) (m.st a o).n d], .int .u64 a, .int .u64 o, .int .u64 o] W (Gives2 W ((m.st a o).st a o) (.bool true) (.int .i64 0)) from by
    have h := swap_any (m.st a o) a o o P Q c d W hS ha
    rw [show (m.st a o).sw a o o = (m.st a o).st a o from if_pos ⟨tk, st_ld hok.out ta⟩, show (m.st a o).swb a o = true from decide_eq_true ⟨tk, st_ld hok.out ta⟩, lde_n (Me.st_n m a o), show m.lde a = 0 from if_pos ta] at h
    exact h)
  have h4 := Lib.hid (fun (W : World) (P Q : Addr) (c d : Nat) (hS : Sits W (m.st a o) P Q c d) => show Calls Try.prog 13 #[.agg #[.int .i64 (m.st a o).n, .slice (some P) (m.st a o).n c, .slice (some Q) (m.st a o).n d], .int .u64 a] W (fun e w' => e = .returned (.tuple #[.int .u64 o, .int .i64 0]) ∧ Up W w') from by
    have h := load_any (m.st a o) a P Q c d W hS ha
    rw [st_ld hok.out ta, lde_n (Me.st_n m a o), show m.lde a = 0 from if_pos ta] at h
    exact h)
  generalize (m.st a o).st a o = V at h3
  clear tk
  generalize m.st a o = K at h2 h3 h4
  clear ta hl
  go_enter Try.func7, Try.ntmps7
  go_wp2_with (fail)
  refine (shown_any _).mono ?_
  rintro e w1 ⟨rfl, h1⟩
  have D1 := (Blk.new _ 25 _).up h1
  simp at D1
  have U1 : Up w w1 := (((Up.refl w).alloc _).alloc _).trans h1
  clear h1
  have D1c := D1.cell
  have D1l := D1.lt
  have D1f := D1.frozen
  go_wp2_with (fail)
  refine (hf.out _).mono ?_
  rintro e w2 ⟨rfl, h2⟩
  have D2 := D1.up h2
  have U2 : Up w w2 := U1.trans h2
  clear h2 D1 D1c D1f U1
  have D2c := D2.cell
  have D2l := D2.lt
  have D2f := D2.frozen
  go_wp2_with (fail)
  refine (h1.out _ (HM.out.up U2)).mono ?_
  rintro e w3 ⟨rfl, h3⟩
  have D3 := D2.up h3
  have U3 : Up w w3 := U2.trans h3
  clear h3 D2 D2c D2f U2
  have D3c := D3.cell
  have D3l := D3.lt
  have D3f := D3.frozen
  go_wp2_with (fail)
  refine (h2.out _ (HM.out.up U3)).mono ?_
  rintro e w4 ⟨PK, QK, cK, dK, rfl, sK4, h4⟩
  have D4 := D3.up h4
  have U4 : Up w w4 := U3.trans h4
  clear h4 D3 D3c D3f U3
  have D4c := D4.cell
  have D4l := D4.lt
  have D4f := D4.frozen
  go_wp2_with (fail)
  refine (h3.out _ _ _ _ _ (sK4.up ((Up.refl _).alloc _))).mono ?_
  rintro e w5 ⟨PV, QV, cV, dV, rfl, sV5, h5⟩
  have D5 := (D4.alloc _).up h5
  have K5 := (Blk.new w4 25 _).up h5
  have nKD5 := Nat.ne_of_gt D4l
  have nDK5 := Nat.ne_of_lt D4l
  have U5 : Up w w5 := (U4.alloc _).trans h5
  have sK5 := (sK4.up ((Up.refl _).alloc _)).up h5
  clear h5 D4 D4c D4f U4 sK4
  have D5c := D5.cell
  have D5l := D5.lt
  have D5f := D5.frozen
  have K5c := K5.cell
  have K5l := K5.lt
  have K5f := K5.frozen
  go_wp2_with (fail)
  refine (h4.out _ _ _ _ _ (sK5.up ((Up.refl _).alloc _))).mono ?_
  rintro e w6 ⟨rfl, h6⟩
  have D6 := (D5.alloc _).up h6
  have K6 := (K5.alloc _).up h6
  have V6 := (Blk.new w5 25 _).up h6
  have nVD6 := Nat.ne_of_gt D5l
  have nDV6 := Nat.ne_of_lt D5l
  have nVK6 := Nat.ne_of_gt K5l
  have nKV6 := Nat.ne_of_lt K5l
  have U6 : Up w w6 := (U5.alloc _).trans h6
  have sK6 := (sK5.up ((Up.refl _).alloc _)).up h6
  have sV6 := (sV5.up ((Up.refl _).alloc _)).up h6
  clear h6 D5 D5c D5f K5 K5c K5f U5 sK5 sV5
  have D6c := D6.cell
  have D6l := D6.lt
  have D6f := D6.frozen
  have K6c := K6.cell
  have K6l := K6.lt
  have K6f := K6.frozen
  have V6c := V6.cell
  have V6l := V6.lt
  have V6f := V6.frozen
  go_wp2
  go_ret
  exact ⟨rfl, U6⟩

set_option maxHeartbeats 4000000 in
theorem walk_3 (m : Me) (P Q : Addr) (c d : Nat) (a : Int) (o : Int) (v : Int) (w : World) (hm : Sits w m P Q c d) (hn : m.n ≤ 200) (ha : U64 a) (ho : U64 o) (hv : U64 v) (ta : m.there a) (hl : m.ld a = o) (hne : v ≠ o) :
    Calls Try.prog 7 #[.agg #[.int .i64 m.n, .slice (some P) m.n c, .slice (some Q) m.n d, .int .u64 a, .int .u64 o, .int .u64 v]] w fun e w' => e = .returned (.bool true) ∧ Up w w' := by
  have hfew : few m.n m.n m.n = true := by unfold few rt; simp; have := hm.1.1; omega
  have hf := fun w => few_any m.n (some P) (some Q) m.n m.n c d w
  rw [hfew] at hf
  have hf := Lib.hid hf
  have hok := Lib.hid hm.1
  have HM := Lib.hid hm
  clear hfew hm
  have h1 := Lib.hid (fun (W : World) (hS : Sits W m P Q c d) => show Calls Try.prog 13 #[.agg #[.int .i64 m.n, .slice (some P) m.n c, .slice (some Q) m.n d], .int .u64 a] W (fun e w' => e = .returned (.tuple #[.int .u64 o, .int .i64 0]) ∧ Up W w') from by
    have h := load_any (m) a P Q c d W hS ha
    rw [hl, show m.lde a = 0 from if_pos ta] at h
    exact h)
  have h2 := Lib.hid (fun (W : World) (hS : Sits W m P Q c d) => show Calls Try.prog 17 #[.agg #[.int .i64 m.n, .slice (some P) m.n c, .slice (some Q) m.n d], .int .u64 a, .int .u64 o, .int .u64 v] W (Gives2 W (m.st a v) (.bool true) (.int .i64 0)) from by
    have h := swap_any (m) a o v P Q c d W hS ha
    rw [show m.sw a o v = m.st a v from if_pos ⟨ta, hl⟩, show m.swb a o = true from decide_eq_true ⟨ta, hl⟩, show m.lde a = 0 from if_pos ta] at h
    exact h)
  have tk : (m.st a v).there a := (there_n (Me.st_n m a v) a).2 ta
  have hk : (m.st a v).ld a ≠ o := by rw [st_ld hok.out ta]; exact hne
  have h3 := Lib.hid (fun (W : World) (P Q : Addr) (c d : Nat) (hS : Sits W (m.st a v) P Q c d) => show Calls Try.prog 17 #[.agg #[.int .i64 (m.st a v).n, .slice (some P) (m.st a v).n c, .slice (some Q) (m.st a v).n d], .int .u64 a, .int .u64 o, .int .u64 v] W (Gives2 W (m.st a v) (.bool false) (.int .i64 0)) from by
    have h := swap_any (m.st a v) a o v P Q c d W hS ha
    rw [show (m.st a v).sw a o v = m.st a v from if_neg (fun q => hk q.2), show (m.st a v).swb a o = false from decide_eq_false (fun q => hk q.2), lde_n (Me.st_n m a v), show m.lde a = 0 from if_pos ta] at h
    exact h)
  have h4 := Lib.hid (fun (W : World) (P Q : Addr) (c d : Nat) (hS : Sits W (m.st a v) P Q c d) => show Calls Try.prog 13 #[.agg #[.int .i64 (m.st a v).n, .slice (some P) (m.st a v).n c, .slice (some Q) (m.st a v).n d], .int .u64 a] W (fun e w' => e = .returned (.tuple #[.int .u64 v, .int .i64 0]) ∧ Up W w') from by
    have h := load_any (m.st a v) a P Q c d W hS ha
    rw [st_ld hok.out ta, lde_n (Me.st_n m a v), show m.lde a = 0 from if_pos ta] at h
    exact h)
  have hb : (v == o) = false := beq_eq_false_iff_ne.mpr hne
  clear hk hne
  clear tk
  generalize m.st a v = K at h2 h3 h4
  clear ta hl
  go_enter Try.func7, Try.ntmps7
  go_wp2_with (fail)
  refine (shown_any _).mono ?_
  rintro e w1 ⟨rfl, h1⟩
  have D1 := (Blk.new _ 25 _).up h1
  simp at D1
  have U1 : Up w w1 := (((Up.refl w).alloc _).alloc _).trans h1
  clear h1
  have D1c := D1.cell
  have D1l := D1.lt
  have D1f := D1.frozen
  go_wp2_with (fail)
  refine (hf.out _).mono ?_
  rintro e w2 ⟨rfl, h2⟩
  have D2 := D1.up h2
  have U2 : Up w w2 := U1.trans h2
  clear h2 D1 D1c D1f U1
  have D2c := D2.cell
  have D2l := D2.lt
  have D2f := D2.frozen
  go_wp2_with (fail)
  refine (h1.out _ (HM.out.up U2)).mono ?_
  rintro e w3 ⟨rfl, h3⟩
  have D3 := D2.up h3
  have U3 : Up w w3 := U2.trans h3
  clear h3 D2 D2c D2f U2
  have D3c := D3.cell
  have D3l := D3.lt
  have D3f := D3.frozen
  go_wp2_with (fail)
  refine (h2.out _ (HM.out.up U3)).mono ?_
  rintro e w4 ⟨PK, QK, cK, dK, rfl, sK4, h4⟩
  have D4 := D3.up h4
  have U4 : Up w w4 := U3.trans h4
  clear h4 D3 D3c D3f U3
  have D4c := D4.cell
  have D4l := D4.lt
  have D4f := D4.frozen
  go_wp2_with (fail)
  refine (h3.out _ _ _ _ _ (sK4.up ((Up.refl _).alloc _))).mono ?_
  rintro e w5 ⟨PV, QV, cV, dV, rfl, sV5, h5⟩
  have D5 := (D4.alloc _).up h5
  have K5 := (Blk.new w4 25 _).up h5
  have nKD5 := Nat.ne_of_gt D4l
  have nDK5 := Nat.ne_of_lt D4l
  have U5 : Up w w5 := (U4.alloc _).trans h5
  have sK5 := (sK4.up ((Up.refl _).alloc _)).up h5
  clear h5 D4 D4c D4f U4 sK4
  have D5c := D5.cell
  have D5l := D5.lt
  have D5f := D5.frozen
  have K5c := K5.cell
  have K5l := K5.lt
  have K5f := K5.frozen
  go_wp2_with (fail)
  refine (h4.out _ _ _ _ _ (sK5.up ((Up.refl _).alloc _))).mono ?_
  rintro e w6 ⟨rfl, h6⟩
  have D6 := (D5.alloc _).up h6
  have K6 := (K5.alloc _).up h6
  have V6 := (Blk.new w5 25 _).up h6
  have nVD6 := Nat.ne_of_gt D5l
  have nDV6 := Nat.ne_of_lt D5l
  have nVK6 := Nat.ne_of_gt K5l
  have nKV6 := Nat.ne_of_lt K5l
  have U6 : Up w w6 := (U5.alloc _).trans h6
  have sK6 := (sK5.up ((Up.refl _).alloc _)).up h6
  have sV6 := (sV5.up ((Up.refl _).alloc _)).up h6
  clear h6 D5 D5c D5f K5 K5c K5f U5 sK5 sV5
  have D6c := D6.cell
  have D6l := D6.lt
  have D6f := D6.frozen
  have K6c := K6.cell
  have K6l := K6.lt
  have K6f := K6.frozen
  have V6c := V6.cell
  have V6l := V6.lt
  have V6f := V6.frozen
  go_wp2
  go_ret
  exact ⟨rfl, U6⟩

set_option maxHeartbeats 4000000 in
theorem walk_4 (m : Me) (P Q : Addr) (c d : Nat) (a : Int) (o : Int) (v : Int) (w : World) (hm : Sits w m P Q c d) (hn : m.n ≤ 200) (ha : U64 a) (ho : U64 o) (hv : U64 v) (ta : m.there a) (hl : m.ld a ≠ o) :
    Calls Try.prog 7 #[.agg #[.int .i64 m.n, .slice (some P) m.n c, .slice (some Q) m.n d, .int .u64 a, .int .u64 o, .int .u64 v]] w fun e w' => e = .returned (.bool true) ∧ Up w w' := by
  have hfew : few m.n m.n m.n = true := by unfold few rt; simp; have := hm.1.1; omega
  have hf := fun w => few_any m.n (some P) (some Q) m.n m.n c d w
  rw [hfew] at hf
  have hf := Lib.hid hf
  have hok := Lib.hid hm.1
  have HM := Lib.hid hm
  clear hfew hm
  have h1 := Lib.hid (fun (W : World) (hS : Sits W m P Q c d) => show Calls Try.prog 13 #[.agg #[.int .i64 m.n, .slice (some P) m.n c, .slice (some Q) m.n d], .int .u64 a] W (fun e w' => e = .returned (.tuple #[.int .u64 (m.ld a), .int .i64 0]) ∧ Up W w') from by
    have h := load_any (m) a P Q c d W hS ha
    rw [show m.lde a = 0 from if_pos ta] at h
    exact h)
  have h2 := Lib.hid (fun (W : World) (hS : Sits W m P Q c d) => show Calls Try.prog 17 #[.agg #[.int .i64 m.n, .slice (some P) m.n c, .slice (some Q) m.n d], .int .u64 a, .int .u64 o, .int .u64 v] W (Gives2 W (m) (.bool false) (.int .i64 0)) from by
    have h := swap_any (m) a o v P Q c d W hS ha
    rw [show m.sw a o v = m from if_neg (fun q => hl q.2), show m.swb a o = false from decide_eq_false (fun q => hl q.2), show m.lde a = 0 from if_pos ta] at h
    exact h)
  have h3 := Lib.hid (fun (W : World) (P Q : Addr) (c d : Nat) (hS : Sits W m P Q c d) => show Calls Try.prog 17 #[.agg #[.int .i64 m.n, .slice (some P) m.n c, .slice (some Q) m.n d], .int .u64 a, .int .u64 o, .int .u64 v] W (Gives2 W m (.bool false) (.int .i64 0)) from by
    have h := swap_any m a o v P Q c d W hS ha
    rw [show m.sw a o v = m from if_neg (fun q => hl q.2), show m.swb a o = false from decide_eq_false (fun q => hl q.2), show m.lde a = 0 from if_pos ta] at h
    exact h)
  have h4 := Lib.hid (fun (W : World) (P Q : Addr) (c d : Nat) (hS : Sits W m P Q c d) => show Calls Try.prog 13 #[.agg #[.int .i64 m.n, .slice (some P) m.n c, .slice (some Q) m.n d], .int .u64 a] W (fun e w' => e = .returned (.tuple #[.int .u64 (m.ld a), .int .i64 0]) ∧ Up W w') from by
    have h := load_any m a P Q c d W hS ha
    rw [show m.lde a = 0 from if_pos ta] at h
    exact h)
  have hb : (m.ld a == o) = false := beq_eq_false_iff_ne.mpr hl
  generalize m.ld a = u at h1 h4 hb
  clear ta hl
  go_enter Try.func7, Try.ntmps7
  go_wp2_with (fail)
  refine (shown_any _).mono ?_
  rintro e w1 ⟨rfl, h1⟩
  have D1 := (Blk.new _ 25 _).up h1
  simp at D1
  have U1 : Up w w1 := (((Up.refl w).alloc _).alloc _).trans h1
  clear h1
  have D1c := D1.cell
  have D1l := D1.lt
  have D1f := D1.frozen
  go_wp2_with (fail)
  refine (hf.out _).mono ?_
  rintro e w2 ⟨rfl, h2⟩
  have D2 := D1.up h2
  have U2 : Up w w2 := U1.trans h2
  clear h2 D1 D1c D1f U1
  have D2c := D2.cell
  have D2l := D2.lt
  have D2f := D2.frozen
  go_wp2_with (fail)
  refine (h1.out _ (HM.out.up U2)).mono ?_
  rintro e w3 ⟨rfl, h3⟩
  have D3 := D2.up h3
  have U3 : Up w w3 := U2.trans h3
  clear h3 D2 D2c D2f U2
  have D3c := D3.cell
  have D3l := D3.lt
  have D3f := D3.frozen
  go_wp2_with (fail)
  refine (h2.out _ (HM.out.up U3)).mono ?_
  rintro e w4 ⟨PK, QK, cK, dK, rfl, sK4, h4⟩
  have D4 := D3.up h4
  have U4 : Up w w4 := U3.trans h4
  clear h4 D3 D3c D3f U3
  have D4c := D4.cell
  have D4l := D4.lt
  have D4f := D4.frozen
  go_wp2_with (fail)
  refine (h3.out _ _ _ _ _ (sK4.up ((Up.refl _).alloc _))).mono ?_
  rintro e w5 ⟨PV, QV, cV, dV, rfl, sV5, h5⟩
  have D5 := (D4.alloc _).up h5
  have K5 := (Blk.new w4 25 _).up h5
  have nKD5 := Nat.ne_of_gt D4l
  have nDK5 := Nat.ne_of_lt D4l
  have U5 : Up w w5 := (U4.alloc _).trans h5
  have sK5 := (sK4.up ((Up.refl _).alloc _)).up h5
  clear h5 D4 D4c D4f U4 sK4
  have D5c := D5.cell
  have D5l := D5.lt
  have D5f := D5.frozen
  have K5c := K5.cell
  have K5l := K5.lt
  have K5f := K5.frozen
  go_wp2_with (fail)
  refine (h4.out _ _ _ _ _ (sK5.up ((Up.refl _).alloc _))).mono ?_
  rintro e w6 ⟨rfl, h6⟩
  have D6 := (D5.alloc _).up h6
  have K6 := (K5.alloc _).up h6
  have V6 := (Blk.new w5 25 _).up h6
  have nVD6 := Nat.ne_of_gt D5l
  have nDV6 := Nat.ne_of_lt D5l
  have nVK6 := Nat.ne_of_gt K5l
  have nKV6 := Nat.ne_of_lt K5l
  have U6 : Up w w6 := (U5.alloc _).trans h6
  have sK6 := (sK5.up ((Up.refl _).alloc _)).up h6
  have sV6 := (sV5.up ((Up.refl _).alloc _)).up h6
  clear h6 D5 D5c D5f K5 K5c K5f U5 sK5 sV5
  have D6c := D6.cell
  have D6l := D6.lt
  have D6f := D6.frozen
  have K6c := K6.cell
  have K6l := K6.lt
  have K6f := K6.frozen
  have V6c := V6.cell
  have V6l := V6.lt
  have V6f := V6.frozen
  go_wp2
  go_ret
  exact ⟨rfl, U6⟩

theorem walk (NM : Int) (AM0 AM1 : Option Addr) (nM0 nM1 cM0 cM1 : Nat) (xsM ysM : List Int) (a : Int) (o : Int) (v : Int) (w : World) (hxM : SlOk w AM0 nM0 cM0 xsM) (hyM : SlOk w AM1 nM1 cM1 ysM) (ha : U64 a) (ho : U64 o) (hv : U64 v) :
    Calls Try.prog 7 #[.agg #[.int .i64 NM, .slice AM0 nM0 cM0, .slice AM1 nM1 cM1, .int .u64 a, .int .u64 o, .int .u64 v]] w fun e w' => e = .returned (.bool true) ∧ Up w w' := by
  cases hfew : few NM nM0 nM1
  · exact walk_no NM AM0 AM1 nM0 nM1 cM0 cM1 xsM ysM a o v hfew w
  · obtain ⟨rfl, rfl, h16, h200⟩ := few_is hfew
    obtain ⟨P, Q, rfl, rfl, hm⟩ := sits_of hxM hyM h16 (by omega)
    by_cases ta : (⟨nM0, xsM, ysM⟩ : Me).there a
    · by_cases hl : (⟨nM0, xsM, ysM⟩ : Me).ld a = o
      · by_cases hne : v = o
        · subst hne
          exact walk_2 ⟨nM0, xsM, ysM⟩ P Q cM0 cM1 a v w hm h200 ha hv ta hl
        · exact walk_3 ⟨nM0, xsM, ysM⟩ P Q cM0 cM1 a o v w hm h200 ha ho hv ta hl hne
      · exact walk_4 ⟨nM0, xsM, ysM⟩ P Q cM0 cM1 a o v w hm h200 ha ho hv ta hl
    · exact walk_1 ⟨nM0, xsM, ysM⟩ P Q cM0 cM1 a o v w hm h200 ha ho hv ta
theorem cells : Try.prog.cellsOf 59 = 6 := by kernel_rfl
theorem opened {H : Type} {enc : TypeId × Value → H} {w : World} {r : Reach} {b0 : Nat} {vl_ : Value} {d : DataW H} {p : List MemPlace} (hvl_ : Value.okWide Try.prog w r b0 59 vl_) (h_ : DataW.Trod enc Try.prog w 0 (fun _ => true) true 59 vl_ d p) :
    ∃ (NM : Int) (AM0 AM1 : Option Addr) (nM0 nM1 cM0 cM1 : Nat) (xsM ysM : List Int) (a : Int) (o : Int) (v : Int), vl_ = .agg #[.int .i64 NM, .slice AM0 nM0 cM0, .slice AM1 nM1 cM1, .int .u64 a, .int .u64 o, .int .u64 v] ∧ I64 NM ∧ SlOk w AM0 nM0 cM0 xsM ∧ SlOk w AM1 nM1 cM1 ysM ∧ U64 a ∧ U64 o ∧ U64 v := by
  obtain ⟨⟨l⟩, rfl, hsz⟩ := okWide_struct Try.underlying59 hvl_
  match l, hsz.trans cells with
  | [z0_, z1_, z2_, z3_, z4_, z5_], _ =>
    obtain ⟨fuel, hf_⟩ := h_
    obtain ⟨ys_, n_, _, _, _, hlen_, hg_⟩ := DataW.trod_struct Try.underlying59 hf_
    have f0_ := hg_ 0 _ rfl
    have f1_ := hg_ 1 _ rfl
    have f2_ := hg_ 2 _ rfl
    have f3_ := hg_ 3 _ rfl
    match ys_, hlen_ with
    | [y0_, y1_, y2_, y3_], _ =>
      change DataW.trod enc Try.prog w 0 (fun _ => true) true n_ 25 (([z0_, z1_, z2_, z3_, z4_, z5_].drop 0).take (Try.prog.cellsOf 25)) = some y0_ at f0_
      rw [cells_mem] at f0_
      change DataW.trod enc Try.prog w 0 (fun _ => true) true n_ 26 (([z0_, z1_, z2_, z3_, z4_, z5_].drop 3).take (Try.prog.cellsOf 26)) = some y1_ at f1_
      rw [cells_u64] at f1_
      change DataW.trod enc Try.prog w 0 (fun _ => true) true n_ 26 (([z0_, z1_, z2_, z3_, z4_, z5_].drop 4).take (Try.prog.cellsOf 26)) = some y2_ at f2_
      rw [cells_u64] at f2_
      change DataW.trod enc Try.prog w 0 (fun _ => true) true n_ 26 (([z0_, z1_, z2_, z3_, z4_, z5_].drop 5).take (Try.prog.cellsOf 26)) = some y3_ at f3_
      rw [cells_u64] at f3_
      obtain ⟨NM, AM0, AM1, nM0, nM1, cM0, cM1, xsM, ysM, rfl, rfl, rfl, hNM, hxM, hyM⟩ := mem_open (v0 := z0_) (v1 := z1_) (v2 := z2_) f0_
      obtain ⟨a, rfl, ha⟩ := u64_open (v := z3_) f1_
      obtain ⟨o, rfl, ho⟩ := u64_open (v := z4_) f2_
      obtain ⟨v, rfl, hv⟩ := u64_open (v := z5_) f3_
      exact ⟨NM, AM0, AM1, nM0, nM1, cM0, cM1, xsM, ysM, a, o, v, rfl, hNM, hxM, hyM, ha, ho, hv⟩

theorem own : ownKnob Try.prog.godebug = none := by kernel_rfl
set_option maxRecDepth 100000 in
theorem lifted (os : Os) (started : os.Started) (H : Type) (enc : TypeId × Value → H) :
    ReturnsInHanded {} Try.checked os 7 .any (Rows.arenaSwapsSpec.pre6 enc Try.prog Try.f7 Rows.arenaSwapsRow.domain false) (Rows.arenaSwapsSpec.post enc Try.prog Try.f7 false true false false) := by
  refine returnsInHanded_of_change (C := Try.checked) own started (by kernel_rfl) Try.func7
    (ChangeSpec.witness6 (enc := enc) (C := Try.checked) false ⟨#[], #[.agg #[.int .i64 0, .slice none 0 0, .slice none 0 0, .int .u64 0, .int .u64 0, .int .u64 0]], []⟩ 8 (by kernel_rfl) (by kernel_rfl) (by kernel_rfl) (by kernel_rfl)) ?_
  intro W base args ds gs before hval0 hW hcnd _
  have hval : ∀ (j : Nat) t v, Try.f7.params[j]? = some t → args[j]? = some v → Value.okWide Try.prog W .any base t v := hval0
  have hW' := hW
  obtain ⟨p, q, hA0, hV, rfl, hfz, hnd⟩ := hW
  have hA : DataW.TrodAll enc Try.prog W 0 (fun _ => true) true Try.f7.params.toList args.toList ds p := hA0
  rw [Try.params7] at hA hval
  obtain ⟨v0, vs0, d0, ds0, p0, q0, hargs, rfl, rfl, h0, r0⟩ := trodAll_cons hA
  obtain ⟨rfl, rfl, rfl⟩ := trodAll_nil r0
  obtain rfl : args = #[v0] := by cases args; simp_all
  obtain ⟨rfl, rfl⟩ := trodVars_none hV
  have h0k := h0
  obtain ⟨NM, AM0, AM1, nM0, nM1, cM0, cM1, xsM, ysM, a, o, v, rfl, hNM, hxM, hyM, ha, ho, hv⟩ := opened (hval 0 59 v0 rfl rfl) h0
  clear hA0 hval0
  simp only [List.append_nil] at hW'
  refine (walk NM AM0 AM1 nM0 nM1 cM0 cM1 xsM ysM a o v W hxM hyM ha ho hv).mono fun e W' ⟨he, hg⟩ => ?_
  subst he
  exact ⟨_, rfl, post_below (pa := p0) (pv := []) hW' (fun _ _ _ => (trodAll_cons_mk (shut_bool Try.underlying4 _) trodAll_mk0))
    (fun sp hsp => by
      have t := trodAll_cons_mk (trod_keeps (sp := sp) (by kernel_rfl) (of_decide_eq_true (by kernel_rfl)) h0k hg (fun x hx => hW'.lt x hx) (fun x hx => hsp x hx)) trodAll_mk0
      rw [List.append_nil] at t
      exact t) (fun _ _ => rfl) (by simp)
    hg (ok_one (by kernel_rfl) rfl (okWide_bool_mk Try.underlying4 _))⟩

theorem over : Rows.arenaSwapsRow.holds Try.pinned (OpenSpec.ofChange Rows.arenaSwapsSpec) :=
  OpenClaim.holds_of_wide 7 Try.f7 rfl rfl rfl rfl rfl rfl rfl ⟨rfl, rfl, rfl, rfl, rfl⟩ rfl rfl rfl rfl rfl (by kernel_rfl) Try.func7 (by kernel_rfl)
    (of_decide_eq_true (by kernel_rfl)) (by unfold Func.isWrapper; first | (rw [if_pos (by decide +kernel)]; kernel_rfl) | (rw [if_neg (by decide +kernel)]; exact ⟨rfl, rfl⟩))
    (fun os started H enc _ => lifted os started H enc)

theorem proved : Rows.ArenaSwapsSaid :=
  over
#print axioms proved
end Go.Proofs.Ytoneandmbnfcoaa.LArenaSwaps
