/- The statement ArenaClears is proved for every input, from contracts of the functions that it calls; no condition is added. -/
import Derived.Test.YtoneandmbnfcoaaPur
namespace Go.Proofs.Ytoneandmbnfcoaa.LArenaClears
open Go.Joins Go.ChangeShapes Go.WideShapes Go.ChangeAt Go.RowKit Go.Deep
set_option linter.unusedVariables false
set_option linter.unusedSimpArgs false

set_option maxHeartbeats 2000000 in
theorem walk_no (N : Int) (A0 A1 : Option Addr) (n0 n1 c0 c1 : Nat) (s a : Int) (hfew : few N n0 n1 = false) (w : World) :
    Calls Try.prog 8 #[.agg #[.int .i64 N, .slice A0 n0 c0, .slice A1 n1 c1], .int .i64 s, .int .u64 a] w fun e w' => e = .returned (.bool true) ∧ Up w w' := by
  have hf := fun w => few_any N A0 A1 n0 n1 c0 c1 w
  rw [hfew] at hf
  have hf := Lib.hid hf
  clear hfew
  go_enter Try.func8, Try.ntmps8
  go_wp2_with (fail)
  refine (shown_any _).mono ?_
  rintro e w1 ⟨rfl, h1⟩
  have D1 := (Blk.new w 25 _).up h1
  have U1 : Up w w1 := ((Up.refl w).alloc _).trans h1
  clear h1
  have D1c := D1.cell
  have D1l := D1.lt
  have D1f := D1.frozen
  go_wp2_with (fail)
  refine (hf.out _).mono ?_
  rintro e w2 ⟨rfl, h2⟩
  have D2 := D1.up h2
  have U2 : Up w w2 := U1.trans h2
  clear h2 D1 D1c D1f U1
  have D2c := D2.cell
  have D2l := D2.lt
  have D2f := D2.frozen
  go_wp2
  go_ret
  exact ⟨rfl, U2⟩

set_option maxHeartbeats 4000000 in
theorem walk_no_ (m : Me) (P Q : Addr) (c d : Nat) (s : Int) (a : Int) (w : World) (hm : Sits w m P Q c d) (hn : m.n ≤ 200) (hs : I64 s) (ha : U64 a) (hb : whb a = false) :
    Calls Try.prog 8 #[.agg #[.int .i64 m.n, .slice (some P) m.n c, .slice (some Q) m.n d], .int .i64 s, .int .u64 a] w fun e w' => e = .returned (.bool true) ∧ Up w w' := by
  have hfew : few m.n m.n m.n = true := by unfold few rt; simp; have := hm.1.1; omega
  have hf := fun w => few_any m.n (some P) (some Q) m.n m.n c d w
  rw [hfew] at hf
  have hf := Lib.hid hf
  have hok := Lib.hid hm.1
  have HM := Lib.hid hm
  clear hfew hm
  have h1 := Lib.hid (fun (W : World) (hS : Sits W m P Q c d) => clear_any m s P Q c d W hS)
  have h2 := Lib.hid (fun (W : World) (hS : Sits W m P Q c d) => show Calls Try.prog 13 #[.agg #[.int .i64 m.n, .slice (some P) m.n c, .slice (some Q) m.n d], .int .u64 a] W (fun e w' => e = .returned (.tuple #[.int .u64 0, .int .i64 2]) ∧ Up W w') from by
    have h := load_any (m) a P Q c d W hS ha
    rw [show m.ld a = 0 from if_neg (fun q => by have := q.1; rw [hb] at this; cases this), show m.lde a = 2 from if_neg (fun q => by have := q.1; rw [hb] at this; cases this)] at h
    exact h)
  have h3 := Lib.hid (fun (W : World) (P Q : Addr) (c d : Nat) (hS : Sits W (m.clr s) P Q c d) => show Calls Try.prog 13 #[.agg #[.int .i64 (m.clr s).n, .slice (some P) (m.clr s).n c, .slice (some Q) (m.clr s).n d], .int .u64 a] W (fun e w' => e = .returned (.tuple #[.int .u64 ((m.clr s).ld a), .int .i64 2]) ∧ Up W w') from by
    have h := load_any (m.clr s) a P Q c d W hS ha
    rw [lde_n (Me.clr_n m s), show m.lde a = 2 from if_neg (fun q => by have := q.1; rw [hb] at this; cases this)] at h
    exact h)
  generalize (m.clr s).ld a = u at h3
  have h4 := Lib.hid (fun (W : World) => rwhere_not a ha hb W)
  generalize m.clr s = K at h1 h3
  clear hb
  go_enter Try.func8, Try.ntmps8
  go_wp2_with (fail)
  refine (shown_any _).mono ?_
  rintro e w1 ⟨rfl, h1⟩
  have D1 := (Blk.new w 25 _).up h1
  have U1 : Up w w1 := ((Up.refl w).alloc _).trans h1
  clear h1
  have D1c := D1.cell
  have D1l := D1.lt
  have D1f := D1.frozen
  go_wp2_with (fail)
  refine (hf.out _).mono ?_
  rintro e w2 ⟨rfl, h2⟩
  have D2 := D1.up h2
  have U2 : Up w w2 := U1.trans h2
  clear h2 D1 D1c D1f U1
  have D2c := D2.cell
  have D2l := D2.lt
  have D2f := D2.frozen
  go_wp2_with (fail)
  refine (h1.out _ (HM.out.up U2)).mono ?_
  rintro e w3 ⟨PK, QK, cK, dK, rfl, sK3, h3⟩
  have D3 := D2.up h3
  have U3 : Up w w3 := U2.trans h3
  clear h3 D2 D2c D2f U2
  have D3c := D3.cell
  have D3l := D3.lt
  have D3f := D3.frozen
  go_wp2_with (fail)
  refine (h2.out _ (HM.out.up (U3.alloc _))).mono ?_
  rintro e w4 ⟨rfl, h4⟩
  have D4 := (D3.alloc _).up h4
  have K4 := (Blk.new w3 25 _).up h4
  have nKD4 := Nat.ne_of_gt D3l
  have nDK4 := Nat.ne_of_lt D3l
  have U4 : Up w w4 := (U3.alloc _).trans h4
  have sK4 := (sK3.up ((Up.refl _).alloc _)).up h4
  clear h4 D3 D3c D3f U3 sK3
  have D4c := D4.cell
  have D4l := D4.lt
  have D4f := D4.frozen
  have K4c := K4.cell
  have K4l := K4.lt
  have K4f := K4.frozen
  go_wp2_with (fail)
  refine (h3.out _ _ _ _ _ sK4).mono ?_
  rintro e w5 ⟨rfl, h5⟩
  have D5 := D4.up h5
  have K5 := K4.up h5
  have U5 : Up w w5 := U4.trans h5
  have sK5 := sK4.up h5
  clear h5 D4 D4c D4f K4 K4c K4f U4 sK4
  have D5c := D5.cell
  have D5l := D5.lt
  have D5f := D5.frozen
  have K5c := K5.cell
  have K5l := K5.lt
  have K5f := K5.frozen
  go_wp2_with (fail)
  refine (h4.out _).mono ?_
  rintro e w6 ⟨rfl, rfl⟩
  go_wp2_with (fail)
  refine (rright_me _ _ _ _ _ _ sK5.1).mono ?_
  rintro e w6 ⟨rfl, h6⟩
  have D6 := D5.up h6
  have K6 := K5.up h6
  have U6 : Up w w6 := U5.trans h6
  have sK6 := sK5.up h6
  clear h6 D5 D5c D5f K5 K5c K5f U5 sK5
  have D6c := D6.cell
  have D6l := D6.lt
  have D6f := D6.frozen
  have K6c := K6.cell
  have K6l := K6.lt
  have K6f := K6.frozen
  go_wp2
  go_ret
  exact ⟨rfl, U6⟩

set_option maxHeartbeats 4000000 in
theorem walk_far (m : Me) (P Q : Addr) (c d : Nat) (s : Int) (a : Int) (w : World) (hm : Sits w m P Q c d) (hn : m.n ≤ 200) (hs : I64 s) (ha : U64 a) (hb : whb a = true) (ht : ¬ m.there a) :
    Calls Try.prog 8 #[.agg #[.int .i64 m.n, .slice (some P) m.n c, .slice (some Q) m.n d], .int .i64 s, .int .u64 a] w fun e w' => e = .returned (.bool true) ∧ Up w w' := by
  have hfew : few m.n m.n m.n = true := by unfold few rt; simp; have := hm.1.1; omega
  have hf := fun w => few_any m.n (some P) (some Q) m.n m.n c d w
  rw [hfew] at hf
  have hf := Lib.hid hf
  have hok := Lib.hid hm.1
  have HM := Lib.hid hm
  clear hfew hm
  have h1 := Lib.hid (fun (W : World) (hS : Sits W m P Q c d) => clear_any m s P Q c d W hS)
  have h2 := Lib.hid (fun (W : World) (hS : Sits W m P Q c d) => show Calls Try.prog 13 #[.agg #[.int .i64 m.n, .slice (some P) m.n c, .slice (some Q) m.n d], .int .u64 a] W (fun e w' => e = .returned (.tuple #[.int .u64 0, .int .i64 2]) ∧ Up W w') from by
    have h := load_any (m) a P Q c d W hS ha
    rw [show m.ld a = 0 from if_neg ht, show m.lde a = 2 from if_neg ht] at h
    exact h)
  have h3 := Lib.hid (fun (W : World) (P Q : Addr) (c d : Nat) (hS : Sits W (m.clr s) P Q c d) => show Calls Try.prog 13 #[.agg #[.int .i64 (m.clr s).n, .slice (some P) (m.clr s).n c, .slice (some Q) (m.clr s).n d], .int .u64 a] W (fun e w' => e = .returned (.tuple #[.int .u64 ((m.clr s).ld a), .int .i64 2]) ∧ Up W w') from by
    have h := load_any (m.clr s) a P Q c d W hS ha
    rw [lde_n (Me.clr_n m s), show m.lde a = 2 from if_neg ht] at h
    exact h)
  generalize (m.clr s).ld a = u at h3
  have h4 := Lib.hid (fun (W : World) => show Calls Try.prog 29 #[.int .u64 a] W fun e w' => e = .returned (.tuple #[.int .i64 (whs a), .int .i64 (whp a), .bool true]) ∧ W = w' from by
    have h := rwhere a ha.1 ha.2 W
    rw [hb] at h
    exact h)
  generalize whs a = sp at h4
  generalize whp a = pp at h4
  generalize m.clr s = K at h1 h3
  clear hb ht
  go_enter Try.func8, Try.ntmps8
  go_wp2_with (fail)
  refine (shown_any _).mono ?_
  rintro e w1 ⟨rfl, h1⟩
  have D1 := (Blk.new w 25 _).up h1
  have U1 : Up w w1 := ((Up.refl w).alloc _).trans h1
  clear h1
  have D1c := D1.cell
  have D1l := D1.lt
  have D1f := D1.frozen
  go_wp2_with (fail)
  refine (hf.out _).mono ?_
  rintro e w2 ⟨rfl, h2⟩
  have D2 := D1.up h2
  have U2 : Up w w2 := U1.trans h2
  clear h2 D1 D1c D1f U1
  have D2c := D2.cell
  have D2l := D2.lt
  have D2f := D2.frozen
  go_wp2_with (fail)
  refine (h1.out _ (HM.out.up U2)).mono ?_
  rintro e w3 ⟨PK, QK, cK, dK, rfl, sK3, h3⟩
  have D3 := D2.up h3
  have U3 : Up w w3 := U2.trans h3
  clear h3 D2 D2c D2f U2
  have D3c := D3.cell
  have D3l := D3.lt
  have D3f := D3.frozen
  go_wp2_with (fail)
  refine (h2.out _ (HM.out.up (U3.alloc _))).mono ?_
  rintro e w4 ⟨rfl, h4⟩
  have D4 := (D3.alloc _).up h4
  have K4 := (Blk.new w3 25 _).up h4
  have nKD4 := Nat.ne_of_gt D3l
  have nDK4 := Nat.ne_of_lt D3l
  have U4 : Up w w4 := (U3.alloc _).trans h4
  have sK4 := (sK3.up ((Up.refl _).alloc _)).up h4
  clear h4 D3 D3c D3f U3 sK3
  have D4c := D4.cell
  have D4l := D4.lt
  have D4f := D4.frozen
  have K4c := K4.cell
  have K4l := K4.lt
  have K4f := K4.frozen
  go_wp2_with (fail)
  refine (h3.out _ _ _ _ _ sK4).mono ?_
  rintro e w5 ⟨rfl, h5⟩
  have D5 := D4.up h5
  have K5 := K4.up h5
  have U5 : Up w w5 := U4.trans h5
  have sK5 := sK4.up h5
  clear h5 D4 D4c D4f K4 K4c K4f U4 sK4
  have D5c := D5.cell
  have D5l := D5.lt
  have D5f := D5.frozen
  have K5c := K5.cell
  have K5l := K5.lt
  have K5f := K5.frozen
  go_wp2_with (fail)
  refine (h4.out _).mono ?_
  rintro e w6 ⟨rfl, rfl⟩
  go_wp2_with (fail)
  refine (rright_me _ _ _ _ _ _ sK5.1).mono ?_
  rintro e w6 ⟨rfl, h6⟩
  have D6 := D5.up h6
  have K6 := K5.up h6
  have U6 : Up w w6 := U5.trans h6
  have sK6 := sK5.up h6
  clear h6 D5 D5c D5f K5 K5c K5f U5 sK5
  have D6c := D6.cell
  have D6l := D6.lt
  have D6f := D6.frozen
  have K6c := K6.cell
  have K6l := K6.lt
  have K6f := K6.frozen
  go_wp2
  go_ret
  exact ⟨rfl, U6⟩

set_option maxHeartbeats 4000000 in
theorem walk_same (m : Me) (P Q : Addr) (c d : Nat) (s : Int) (a : Int) (w : World) (hm : Sits w m P Q c d) (hn : m.n ≤ 200) (hs : I64 s) (ha : U64 a) (ht : m.there a) (hs : whs a = s) :
    Calls Try.prog 8 #[.agg #[.int .i64 m.n, .slice (some P) m.n c, .slice (some Q) m.n d], .int .i64 s, .int .u64 a] w fun e w' => e = .returned (.bool true) ∧ Up w w' := by
  have hfew : few m.n m.n m.n = true := by unfold few rt; simp; have := hm.1.1; omega
  have hf := fun w => few_any m.n (some P) (some Q) m.n m.n c d w
  rw [hfew] at hf
  have hf := Lib.hid hf
  have hok := Lib.hid hm.1
  have HM := Lib.hid hm
  clear hfew hm
  have h1 := Lib.hid (fun (W : World) (hS : Sits W m P Q c d) => clear_any m s P Q c d W hS)
  have h2 := Lib.hid (fun (W : World) (hS : Sits W m P Q c d) => show Calls Try.prog 13 #[.agg #[.int .i64 m.n, .slice (some P) m.n c, .slice (some Q) m.n d], .int .u64 a] W (fun e w' => e = .returned (.tuple #[.int .u64 (m.ld a), .int .i64 0]) ∧ Up W w') from by
    have h := load_any (m) a P Q c d W hS ha
    rw [show m.lde a = 0 from if_pos ht] at h
    exact h)
  have h3 := Lib.hid (fun (W : World) (P Q : Addr) (c d : Nat) (hS : Sits W (m.clr s) P Q c d) => show Calls Try.prog 13 #[.agg #[.int .i64 (m.clr s).n, .slice (some P) (m.clr s).n c, .slice (some Q) (m.clr s).n d], .int .u64 a] W (fun e w' => e = .returned (.tuple #[.int .u64 0, .int .i64 0]) ∧ Up W w') from by
    have h := load_any (m.clr s) a P Q c d W hS ha
    rw [lde_n (Me.clr_n m s), show m.lde a = 0 from if_pos ht, clr_same hok.out hs] at h
    exact h)
  generalize m.ld a = u at h2
  have h4 := Lib.hid (fun (W : World) => show Calls Try.prog 29 #[.int .u64 a] W fun e w' => e = .returned (.tuple #[.int .i64 s, .int .i64 (whp a), .bool true]) ∧ W = w' from by
    have h := rwhere a ha.1 ha.2 W
    rw [hs, ht.1] at h
    exact h)
  generalize whp a = pp at h4
  generalize m.clr s = K at h1 h3
  clear ht hs
  go_enter Try.func8, Try.ntmps8
  go_wp2_with (fail)
  refine (shown_any _).mono ?_
  rintro e w1 ⟨rfl, h1⟩
  have D1 := (Blk.new w 25 _).up h1
  have U1 : Up w w1 := ((Up.refl w).alloc _).trans h1
  clear h1
  have D1c := D1.cell
  have D1l := D1.lt
  have D1f := D1.frozen
  go_wp2_with (fail)
  refine (hf.out _).mono ?_
  rintro e w2 ⟨rfl, h2⟩
  have D2 := D1.up h2
  have U2 : Up w w2 := U1.trans h2
  clear h2 D1 D1c D1f U1
  have D2c := D2.cell
  have D2l := D2.lt
  have D2f := D2.frozen
  go_wp2_with (fail)
  refine (h1.out _ (HM.out.up U2)).mono ?_
  rintro e w3 ⟨PK, QK, cK, dK, rfl, sK3, h3⟩
  have D3 := D2.up h3
  have U3 : Up w w3 := U2.trans h3
  clear h3 D2 D2c D2f U2
  have D3c := D3.cell
  have D3l := D3.lt
  have D3f := D3.frozen
  go_wp2_with (fail)
  refine (h2.out _ (HM.out.up (U3.alloc _))).mono ?_
  rintro e w4 ⟨rfl, h4⟩
  have D4 := (D3.alloc _).up h4
  have K4 := (Blk.new w3 25 _).up h4
  have nKD4 := Nat.ne_of_gt D3l
  have nDK4 := Nat.ne_of_lt D3l
  have U4 : Up w w4 := (U3.alloc _).trans h4
  have sK4 := (sK3.up ((Up.refl _).alloc _)).up h4
  clear h4 D3 D3c D3f U3 sK3
  have D4c := D4.cell
  have D4l := D4.lt
  have D4f := D4.frozen
  have K4c := K4.cell
  have K4l := K4.lt
  have K4f := K4.frozen
  go_wp2_with (fail)
  refine (h3.out _ _ _ _ _ sK4).mono ?_
  rintro e w5 ⟨rfl, h5⟩
  have D5 := D4.up h5
  have K5 := K4.up h5
  have U5 : Up w w5 := U4.trans h5
  have sK5 := sK4.up h5
  clear h5 D4 D4c D4f K4 K4c K4f U4 sK4
  have D5c := D5.cell
  have D5l := D5.lt
  have D5f := D5.frozen
  have K5c := K5.cell
  have K5l := K5.lt
  have K5f := K5.frozen
  go_wp2_with (fail)
  refine (h4.out _).mono ?_
  rintro e w6 ⟨rfl, rfl⟩
  go_wp2_with (fail)
  refine (rright_me _ _ _ _ _ _ sK5.1).mono ?_
  rintro e w6 ⟨rfl, h6⟩
  have D6 := D5.up h6
  have K6 := K5.up h6
  have U6 : Up w w6 := U5.trans h6
  have sK6 := sK5.up h6
  clear h6 D5 D5c D5f K5 K5c K5f U5 sK5
  have D6c := D6.cell
  have D6l := D6.lt
  have D6f := D6.frozen
  have K6c := K6.cell
  have K6l := K6.lt
  have K6f := K6.frozen
  go_wp2
  go_ret
  exact ⟨rfl, U6⟩

set_option maxHeartbeats 4000000 in
theorem walk_other (m : Me) (P Q : Addr) (c d : Nat) (s : Int) (a : Int) (w : World) (hm : Sits w m P Q c d) (hn : m.n ≤ 200) (hs : I64 s) (ha : U64 a) (ht : m.there a) (hs : whs a ≠ s) :
    Calls Try.prog 8 #[.agg #[.int .i64 m.n, .slice (some P) m.n c, .slice (some Q) m.n d], .int .i64 s, .int .u64 a] w fun e w' => e = .returned (.bool true) ∧ Up w w' := by
  have hfew : few m.n m.n m.n = true := by unfold few rt; simp; have := hm.1.1; omega
  have hf := fun w => few_any m.n (some P) (some Q) m.n m.n c d w
  rw [hfew] at hf
  have hf := Lib.hid hf
  have hok := Lib.hid hm.1
  have HM := Lib.hid hm
  clear hfew hm
  have h1 := Lib.hid (fun (W : World) (hS : Sits W m P Q c d) => clear_any m s P Q c d W hS)
  have h2 := Lib.hid (fun (W : World) (hS : Sits W m P Q c d) => show Calls Try.prog 13 #[.agg #[.int .i64 m.n, .slice (some P) m.n c, .slice (some Q) m.n d], .int .u64 a] W (fun e w' => e = .returned (.tuple #[.int .u64 (m.ld a), .int .i64 0]) ∧ Up W w') from by
    have h := load_any (m) a P Q c d W hS ha
    rw [show m.lde a = 0 from if_pos ht] at h
    exact h)
  have h3 := Lib.hid (fun (W : World) (P Q : Addr) (c d : Nat) (hS : Sits W (m.clr s) P Q c d) => show Calls Try.prog 13 #[.agg #[.int .i64 (m.clr s).n, .slice (some P) (m.clr s).n c, .slice (some Q) (m.clr s).n d], .int .u64 a] W (fun e w' => e = .returned (.tuple #[.int .u64 (m.ld a), .int .i64 0]) ∧ Up W w') from by
    have h := load_any (m.clr s) a P Q c d W hS ha
    rw [lde_n (Me.clr_n m s), show m.lde a = 0 from if_pos ht, clr_other hs] at h
    exact h)
  generalize m.ld a = u at h2 h3
  have h4 := Lib.hid (fun (W : World) => show Calls Try.prog 29 #[.int .u64 a] W fun e w' => e = .returned (.tuple #[.int .i64 (whs a), .int .i64 (whp a), .bool true]) ∧ W = w' from by
    have h := rwhere a ha.1 ha.2 W
    rw [ht.1] at h
    exact h)
  generalize whs a = sp at h4 hs
  generalize whp a = pp at h4
  have b1 : (sp == s) = false := beq_eq_false_iff_ne.mpr hs
  have b2 : (sp != s) = true := bne_iff_ne.mpr hs
  generalize m.clr s = K at h1 h3
  clear ht hs
  go_enter Try.func8, Try.ntmps8
  go_wp2_with (fail)
  refine (shown_any _).mono ?_
  rintro e w1 ⟨rfl, h1⟩
  have D1 := (Blk.new w 25 _).up h1
  have U1 : Up w w1 := ((Up.refl w).alloc _).trans h1
  clear h1
  have D1c := D1.cell
  have D1l := D1.lt
  have D1f := D1.frozen
  go_wp2_with (fail)
  refine (hf.out _).mono ?_
  rintro e w2 ⟨rfl, h2⟩
  have D2 := D1.up h2
  have U2 : Up w w2 := U1.trans h2
  clear h2 D1 D1c D1f U1
  have D2c := D2.cell
  have D2l := D2.lt
  have D2f := D2.frozen
  go_wp2_with (fail)
  refine (h1.out _ (HM.out.up U2)).mono ?_
  rintro e w3 ⟨PK, QK, cK, dK, rfl, sK3, h3⟩
  have D3 := D2.up h3
  have U3 : Up w w3 := U2.trans h3
  clear h3 D2 D2c D2f U2
  have D3c := D3.cell
  have D3l := D3.lt
  have D3f := D3.frozen
  go_wp2_with (fail)
  refine (h2.out _ (HM.out.up (U3.alloc _))).mono ?_
  rintro e w4 ⟨rfl, h4⟩
  have D4 := (D3.alloc _).up h4
  have K4 := (Blk.new w3 25 _).up h4
  have nKD4 := Nat.ne_of_gt D3l
  have nDK4 := Nat.ne_of_lt D3l
  have U4 : Up w w4 := (U3.alloc _).trans h4
  have sK4 := (sK3.up ((Up.refl _).alloc _)).up h4
  clear h4 D3 D3c D3f U3 sK3
  have D4c := D4.cell
  have D4l := D4.lt
  have D4f := D4.frozen
  have K4c := K4.cell
  have K4l := K4.lt
  have K4f := K4.frozen
  go_wp2_with (fail)
  refine (h3.out _ _ _ _ _ sK4).mono ?_
  rintro e w5 ⟨rfl, h5⟩
  have D5 := D4.up h5
  have K5 := K4.up h5
  have U5 : Up w w5 := U4.trans h5
  have sK5 := sK4.up h5
  clear h5 D4 D4c D4f K4 K4c K4f U4 sK4
  have D5c := D5.cell
  have D5l := D5.lt
  have D5f := D5.frozen
  have K5c := K5.cell
  have K5l := K5.lt
  have K5f := K5.frozen
  go_wp2_with (fail)
  refine (h4.out _).mono ?_
  rintro e w6 ⟨rfl, rfl⟩
  go_wp2_with (fail)
  refine (rright_me _ _ _ _ _ _ sK5.1).mono ?_
  rintro e w6 ⟨rfl, h6⟩
  have D6 := D5.up h6
  have K6 := K5.up h6
  have U6 : Up w w6 := U5.trans h6
  have sK6 := sK5.up h6
  clear h6 D5 D5c D5f K5 K5c K5f U5 sK5
  have D6c := D6.cell
  have D6l := D6.lt
  have D6f := D6.frozen
  have K6c := K6.cell
  have K6l := K6.lt
  have K6f := K6.frozen
  go_wp2
  go_ret
  exact ⟨rfl, U6⟩

theorem walk (N : Int) (A0 A1 : Option Addr) (n0 n1 c0 c1 : Nat) (xs ys : List Int) (s a : Int) (w : World) (hx : SlOk w A0 n0 c0 xs) (hy : SlOk w A1 n1 c1 ys) (hs : I64 s) (ha : U64 a) :
    Calls Try.prog 8 #[.agg #[.int .i64 N, .slice A0 n0 c0, .slice A1 n1 c1], .int .i64 s, .int .u64 a] w fun e w' => e = .returned (.bool true) ∧ Up w w' := by
  cases hfew : few N n0 n1
  · exact walk_no N A0 A1 n0 n1 c0 c1 s a hfew w
  · obtain ⟨rfl, rfl, h16, h200⟩ := few_is hfew
    obtain ⟨P, Q, rfl, rfl, hm⟩ := sits_of hx hy h16 (by omega)
    by_cases ht : (⟨n0, xs, ys⟩ : Me).there a
    · by_cases hq : whs a = s
      · exact walk_same ⟨n0, xs, ys⟩ P Q c0 c1 s a w hm h200 hs ha ht hq
      · exact walk_other ⟨n0, xs, ys⟩ P Q c0 c1 s a w hm h200 hs ha ht hq
    · cases hb : whb a
      · exact walk_no_ ⟨n0, xs, ys⟩ P Q c0 c1 s a w hm h200 hs ha hb
      · exact walk_far ⟨n0, xs, ys⟩ P Q c0 c1 s a w hm h200 hs ha hb ht
theorem opened {H : Type} {enc : TypeId × Value → H} {w : World} {r : Reach} {b0 : Nat} {v : Value} {d : DataW H} {p : List MemPlace} (hv : Value.okWide Try.prog w r b0 25 v) (h : DataW.Trod enc Try.prog w 0 (fun _ => true) true 25 v d p) :
    ∃ (N : Int) (A0 A1 : Option Addr) (n0 n1 c0 c1 : Nat) (xs ys : List Int), v = .agg #[.int .i64 N, .slice A0 n0 c0, .slice A1 n1 c1] ∧ I64 N ∧ SlOk w A0 n0 c0 xs ∧ SlOk w A1 n1 c1 ys := by
  obtain ⟨⟨l⟩, rfl, hsz⟩ := okWide_struct Try.underlying25 hv
  match l, hsz.trans cells_mem with
  | [z0, z1, z2], _ =>
    obtain ⟨fuel, hf⟩ := h
    obtain ⟨N, A0, A1, n0, n1, c0, c1, xs, ys, rfl, rfl, rfl, h1, h2, h3⟩ := mem_open (v0 := z0) (v1 := z1) (v2 := z2) hf
    exact ⟨N, A0, A1, n0, n1, c0, c1, xs, ys, rfl, h1, h2, h3⟩

theorem own : ownKnob Try.prog.godebug = none := by kernel_rfl
set_option maxRecDepth 100000 in
theorem lifted (os : Os) (started : os.Started) (H : Type) (enc : TypeId × Value → H) :
    ReturnsInHanded {} Try.checked os 8 .any (Rows.arenaClearsSpec.pre6 enc Try.prog Try.f8 Rows.arenaClearsRow.domain false) (Rows.arenaClearsSpec.post enc Try.prog Try.f8 false true false false) := by
  refine returnsInHanded_of_change (C := Try.checked) own started (by kernel_rfl) Try.func8
    (ChangeSpec.witness6 (enc := enc) (C := Try.checked) false ⟨#[], #[.agg #[.int .i64 0, .slice none 0 0, .slice none 0 0], .int .i64 0, .int .u64 0], []⟩ 8 (by kernel_rfl) (by kernel_rfl) (by kernel_rfl) (by kernel_rfl)) ?_
  intro W base args ds gs before hval0 hW hcnd _
  have hval : ∀ (j : Nat) t v, Try.f8.params[j]? = some t → args[j]? = some v → Value.okWide Try.prog W .any base t v := hval0
  have hW' := hW
  obtain ⟨p, q, hA0, hV, rfl, hfz, hnd⟩ := hW
  have hA : DataW.TrodAll enc Try.prog W 0 (fun _ => true) true Try.f8.params.toList args.toList ds p := hA0
  rw [Try.params8] at hA hval
  obtain ⟨v0, vs0, d0, ds0, p0, q0, hargs, rfl, rfl, h0, r0⟩ := trodAll_cons hA
  obtain ⟨v1, vs1, d1, ds1, p1, q1, rfl, rfl, rfl, h1, r1⟩ := trodAll_cons r0
  obtain ⟨v2, vs2, d2, ds2, p2, q2, rfl, rfl, rfl, h2, r2⟩ := trodAll_cons r1
  obtain ⟨rfl, rfl, rfl⟩ := trodAll_nil r2
  obtain rfl : args = #[v0, v1, v2] := by cases args; simp_all
  obtain ⟨rfl, rfl⟩ := trodVars_none hV
  have h0k := h0
  obtain ⟨N, A0, A1, n0, n1, c0, c1, xs, ys, rfl, hN, hx, hy⟩ := opened (hval 0 25 v0 rfl rfl) h0
  obtain ⟨a1, rfl, rfl, rfl, w1⟩ := open_int Try.underlying3 (hval 1 3 v1 rfl rfl) h1
  obtain ⟨a2, rfl, rfl, rfl, w2⟩ := open_int Try.underlying26 (hval 2 26 v2 rfl rfl) h2
  clear hA0 hval0
  simp only [List.append_nil, List.nil_append] at hW'
  refine (walk N A0 A1 n0 n1 c0 c1 xs ys a1 a2 W hx hy (i64_of_wf w1) ⟨nn_of_wf w2, hi_of_wf w2⟩).mono fun e W' ⟨he, hg⟩ => ?_
  subst he
  exact ⟨_, rfl, post_below (pa := p0) (pv := []) hW' (fun _ _ _ => (trodAll_cons_mk (shut_bool Try.underlying4 _) trodAll_mk0))
    (fun sp hsp => by
      have t := (trodAll_cons_mk (trod_keeps (sp := sp) (by kernel_rfl) (of_decide_eq_true (by kernel_rfl)) h0k hg (fun x hx => hW'.lt x (by simpa using hx)) (fun x hx => hsp x (by simpa using hx))) (trodAll_cons_mk (shut_int Try.underlying3 w1) (trodAll_cons_mk (shut_int Try.underlying26 w2) trodAll_mk0)))
      simp only [List.append_nil, List.nil_append] at t
      exact t) (fun _ _ => rfl) (by simp)
    hg (ok_one (by kernel_rfl) rfl (okWide_bool_mk Try.underlying4 _))⟩

theorem over : Rows.arenaClearsRow.holds Try.pinned (OpenSpec.ofChange Rows.arenaClearsSpec) :=
  OpenClaim.holds_of_wide 8 Try.f8 rfl rfl rfl rfl rfl rfl rfl ⟨rfl, rfl, rfl, rfl, rfl⟩ rfl rfl rfl rfl rfl (by kernel_rfl) Try.func8 (by kernel_rfl)
    (of_decide_eq_true (by kernel_rfl)) (by unfold Func.isWrapper; first | (rw [if_pos (by decide +kernel)]; kernel_rfl) | (rw [if_neg (by decide +kernel)]; exact ⟨rfl, rfl⟩))
    (fun os started H enc _ => lifted os started H enc)

theorem proved : Rows.ArenaClearsSaid :=
  over
#print axioms proved
end Go.Proofs.Ytoneandmbnfcoaa.LArenaClears
