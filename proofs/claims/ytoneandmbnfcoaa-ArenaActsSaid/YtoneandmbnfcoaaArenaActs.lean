/- The statement ArenaActs is proved for every input, from contracts of the functions that it calls; no condition is added. -/
import Derived.Test.YtoneandmbnfcoaaPur
import Derived.Deep.RegionHeld3
namespace Go.Proofs.Ytoneandmbnfcoaa.LArenaActs
open Go.Joins Go.ChangeShapes Go.WideShapes Go.ChangeAt Go.RowKit Go.Deep
set_option linter.unusedVariables false
set_option linter.unusedSimpArgs false

set_option maxRecDepth 100000 in
set_option maxHeartbeats 4000000 in
theorem walk_no (NM : Int) (AM0 AM1 : Option Addr) (nM0 nM1 cM0 cM1 : Nat) (xsM ysM : List Int) (a : Int) (b : Int) (v : Int) (k : Int) (NO : Int) (AO0 AO1 : Option Addr) (nO0 nO1 cO0 cO1 : Nat) (xsO ysO : List Int) (hfew : few NM nM0 nM1 = false) (w : World) :
    Calls Try.prog 3 #[.agg #[.int .i64 NM, .slice AM0 nM0 cM0, .slice AM1 nM1 cM1, .int .u64 a, .int .u64 b, .int .u64 v, .int .i64 k, .int .i64 NO, .slice AO0 nO0 cO0, .slice AO1 nO1 cO1]] w fun e w' => e = .returned (.bool true) ∧ Up w w' := by
  have hf := fun w => few_any NM AM0 AM1 nM0 nM1 cM0 cM1 w
  rw [hfew] at hf
  have hf := Lib.hid hf
  clear hfew
  go_enter Try.func3, Try.ntmps3
  go_wp2_with (fail)
  refine (shown_any _).mono ?_
  rintro e w1 ⟨rfl, h1⟩
  have D1 := ((Blk.new _ 25 _).alloc _).up h1
  have O1 := (Blk.new _ 25 _).up h1
  simp at D1 O1
  have U1 : Up w w1 := ((((Up.refl w).alloc _).alloc _).alloc _).trans h1
  clear h1
  have D1c := D1.cell
  have D1l := D1.lt
  have D1f := D1.frozen
  have O1c := O1.cell
  have O1l := O1.lt
  have O1f := O1.frozen
  go_wp2_with (fail)
  refine (hf.out _).mono ?_
  rintro e w2 ⟨rfl, h2⟩
  have D2 := D1.up h2
  have O2 := O1.up h2
  have U2 : Up w w2 := U1.trans h2
  clear h2 D1 D1c D1f O1 O1c O1f U1
  have D2c := D2.cell
  have D2l := D2.lt
  have D2f := D2.frozen
  have O2c := O2.cell
  have O2l := O2.lt
  have O2f := O2.frozen
  go_wp2
  go_ret
  exact ⟨rfl, U2⟩

set_option maxRecDepth 100000 in
set_option maxHeartbeats 16000000 in
theorem walk_yes (m : Me) (P Q : Addr) (c d : Nat) (a : Int) (b : Int) (v : Int) (k : Int) (NO : Int) (AO0 AO1 : Option Addr) (nO0 nO1 cO0 cO1 : Nat) (xsO ysO : List Int) (w : World) (hm : Sits w m P Q c d) (hn : m.n ≤ 200) (ha : U64 a) (hb : U64 b) (hv : U64 v) (hk : I64 k) (hO : Lies w ⟨NO, xsO, ysO⟩ AO0 AO1 nO0 nO1 cO0 cO1) :
    Calls Try.prog 3 #[.agg #[.int .i64 m.n, .slice (some P) m.n c, .slice (some Q) m.n d, .int .u64 a, .int .u64 b, .int .u64 v, .int .i64 k, .int .i64 NO, .slice AO0 nO0 cO0, .slice AO1 nO1 cO1]] w fun e w' => e = .returned (.bool true) ∧ Up w w' := by
  have hfew : few m.n m.n m.n = true := by unfold few rt; simp; have := hm.1.1; omega
  have hf := fun w => few_any m.n (some P) (some Q) m.n m.n c d w
  rw [hfew] at hf
  have hf := Lib.hid hf
  have hok := Lib.hid hm.1
  have HM := Lib.hid hm
  clear hfew hm
  have HO := Lib.hid hO
  clear hO
  have h1 := Lib.hid (fun (W : World) (hS : Sits W m P Q c d) => show Calls Try.prog 13 #[.agg #[.int .i64 m.n, .slice (some P) m.n c, .slice (some Q) m.n d], .int .u64 a] W (fun e w' => e = .returned (.tuple #[.int .u64 (m.ld a), .int .i64 (m.lde a)]) ∧ Up W w') from load_any m a P Q c d W hS ha)
  have h2 := Lib.hid (fun (W : World) (hS : Sits W m P Q c d) => show Calls Try.prog 14 #[.agg #[.int .i64 m.n, .slice (some P) m.n c, .slice (some Q) m.n d], .int .u64 a] W (fun e w' => e = .returned (.tuple #[.int .u64 (m.ld a), .int .i64 (m.lde a)]) ∧ Up W w') from rload_any m a P Q c d W hS ha)
  have h3 := Lib.hid (fun (W : World) (hS : Sits W m P Q c d) => show Calls Try.prog 15 #[.agg #[.int .i64 m.n, .slice (some P) m.n c, .slice (some Q) m.n d], .int .u64 a, .int .u64 v] W (Gives1 W (m.st a v) (.int .i64 (m.lde a))) from store_any m a v P Q c d W hS ha)
  have h4 := Lib.hid (fun (W : World) (hS : Sits W m P Q c d) => show Calls Try.prog 16 #[.agg #[.int .i64 m.n, .slice (some P) m.n c, .slice (some Q) m.n d], .int .u64 a, .int .u64 v] W (Gives1 W (m.st a v) (.int .i64 (m.lde a))) from rstore_any m a v P Q c d W hS ha)
  have h5 := Lib.hid (fun (W : World) (hS : Sits W m P Q c d) => show Calls Try.prog 17 #[.agg #[.int .i64 m.n, .slice (some P) m.n c, .slice (some Q) m.n d], .int .u64 a, .int .u64 v, .int .u64 b] W (Gives2 W (m.sw a v b) (.bool (m.swb a v)) (.int .i64 (m.lde a))) from swap_any m a v b P Q c d W hS ha)
  have h6 := Lib.hid (fun (W : World) (hS : Sits W m P Q c d) => show Calls Try.prog 18 #[.agg #[.int .i64 m.n, .slice (some P) m.n c, .slice (some Q) m.n d], .int .u64 a, .int .u64 v, .int .u64 b] W (Gives2 W (m.sw a v b) (.bool (m.swb a v)) (.int .i64 (m.lde a))) from rswap_any m a v b P Q c d W hS ha)
  have h7 := Lib.hid (fun (W : World) (hS : Sits W m P Q c d) => show Calls Try.prog 19 #[.agg #[.int .i64 m.n, .slice (some P) m.n c, .slice (some Q) m.n d], .int .u64 a, .int .u64 b, .int .i64 k] W (Gives1 W (m.mv a b k) (.int .i64 (m.mve a b k))) from move_any m a b k P Q c d W hS ha hb hk)
  have h8 := Lib.hid (fun (W : World) (hS : Sits W m P Q c d) => show Calls Try.prog 20 #[.agg #[.int .i64 m.n, .slice (some P) m.n c, .slice (some Q) m.n d], .int .u64 a, .int .u64 b, .int .i64 k] W (Gives1 W (m.mv a b k) (.int .i64 (m.mve a b k))) from rmove_any m a b k P Q c d W hS ha hb hk)
  have h9 := Lib.hid (fun (W : World) (hS : Sits W m P Q c d) => show Calls Try.prog 22 #[.agg #[.int .i64 m.n, .slice (some P) m.n c, .slice (some Q) m.n d], .int .i64 k] W (Gives W (m.clr k)) from clear_any m k P Q c d W hS)
  have h10 := Lib.hid (fun (W : World) (hS : Sits W m P Q c d) => show Calls Try.prog 23 #[.agg #[.int .i64 m.n, .slice (some P) m.n c, .slice (some Q) m.n d], .int .i64 k] W (Gives W (m.clr k)) from rclear_any m k P Q c d W hS)
  generalize m.clr k = V at h9 h10
  generalize m.mv a b k = C at h7 h8
  generalize m.mve a b k = zm at h7 h8
  generalize m.sw a v b = S at h5 h6
  generalize m.swb a v = t at h5 h6
  generalize m.st a v = X at h3 h4
  generalize m.ld a = u at h1 h2
  generalize m.lde a = z at h1 h2 h3 h4 h5 h6
  have g1 := Lib.hid (fun (W : World) (hS : Sits W m P Q c d) (hL : Lies W ⟨NO, xsO, ysO⟩ AO0 AO1 nO0 nO1 cO0 cO1) => show Calls Try.prog 24 #[.agg #[.int .i64 m.n, .slice (some P) m.n c, .slice (some Q) m.n d], .agg #[.int .i64 NO, .slice AO0 nO0 cO0, .slice AO1 nO1 cO1]] W (fun e w' => e = .returned (.bool (m.ma.same ⟨NO, xsO, ysO⟩)) ∧ Up W w') from same_any m.ma ⟨NO, xsO, ysO⟩ (some P) (some Q) AO0 AO1 m.n m.n nO0 nO1 c d cO0 cO1 W hS.lies hL)
  have g2 := Lib.hid (fun (W : World) (hS : Sits W m P Q c d) (hL : Lies W ⟨NO, xsO, ysO⟩ AO0 AO1 nO0 nO1 cO0 cO1) => show Calls Try.prog 21 #[.agg #[.int .i64 m.n, .slice (some P) m.n c, .slice (some Q) m.n d], .agg #[.int .i64 NO, .slice AO0 nO0 cO0, .slice AO1 nO1 cO1]] W (fun e w' => e = .returned (.bool (m.ma.same ⟨NO, xsO, ysO⟩)) ∧ Up W w') from rsame_any m.ma ⟨NO, xsO, ysO⟩ (some P) (some Q) AO0 AO1 m.n m.n nO0 nO1 c d cO0 cO1 W hS.lies hL)
  generalize m.ma.same ⟨NO, xsO, ysO⟩ = tt at g1 g2
  go_enter Try.func3, Try.ntmps3
  go_wp2_with (fail)
  refine (shown_any _).mono ?_
  rintro e w1 ⟨rfl, h1⟩
  have D1 := ((Blk.new _ 25 _).alloc _).up h1
  have O1 := (Blk.new _ 25 _).up h1
  simp at D1 O1
  have U1 : Up w w1 := ((((Up.refl w).alloc _).alloc _).alloc _).trans h1
  clear h1
  have D1c := D1.cell
  have D1l := D1.lt
  have D1f := D1.frozen
  have O1c := O1.cell
  have O1l := O1.lt
  have O1f := O1.frozen
  go_wp2_with (fail)
  refine (hf.out _).mono ?_
  rintro e w2 ⟨rfl, h2⟩
  have D2 := D1.up h2
  have O2 := O1.up h2
  have U2 : Up w w2 := U1.trans h2
  clear h2 D1 D1c D1f O1 O1c O1f U1
  have D2c := D2.cell
  have D2l := D2.lt
  have D2f := D2.frozen
  have O2c := O2.cell
  have O2l := O2.lt
  have O2f := O2.frozen
  go_wp2_with (fail)
  refine (h1.out _ (HM.out.up U2)).mono ?_
  rintro e w3 ⟨rfl, h3⟩
  have D3 := D2.up h3
  have O3 := O2.up h3
  have U3 : Up w w3 := U2.trans h3
  clear h3 D2 D2c D2f O2 O2c O2f U2
  have D3c := D3.cell
  have D3l := D3.lt
  have D3f := D3.frozen
  have O3c := O3.cell
  have O3l := O3.lt
  have O3f := O3.frozen
  go_wp2_with (fail)
  refine (h2.out _ (HM.out.up U3)).mono ?_
  rintro e w4 ⟨rfl, h4⟩
  have D4 := D3.up h4
  have O4 := O3.up h4
  have U4 : Up w w4 := U3.trans h4
  clear h4 D3 D3c D3f O3 O3c O3f U3
  have D4c := D4.cell
  have D4l := D4.lt
  have D4f := D4.frozen
  have O4c := O4.cell
  have O4l := O4.lt
  have O4f := O4.frozen
  go_wp2_with (fail)
  refine (h3.out _ (HM.out.up U4)).mono ?_
  rintro e w5 ⟨PX, QX, cX, dX, rfl, sX5, h5⟩
  have D5 := D4.up h5
  have O5 := O4.up h5
  have U5 : Up w w5 := U4.trans h5
  clear h5 D4 D4c D4f O4 O4c O4f U4
  have D5c := D5.cell
  have D5l := D5.lt
  have D5f := D5.frozen
  have O5c := O5.cell
  have O5l := O5.lt
  have O5f := O5.frozen
  go_wp2_with (fail)
  refine (h4.out _ (HM.out.up (U5.alloc _))).mono ?_
  rintro e w6 ⟨PY, QY, cY, dY, rfl, sY6, h6⟩
  have D6 := (D5.alloc _).up h6
  have O6 := (O5.alloc _).up h6
  have X6 := (Blk.new w5 25 _).up h6
  have nXD6 := Nat.ne_of_gt D5l
  have nDX6 := Nat.ne_of_lt D5l
  have nXO6 := Nat.ne_of_gt O5l
  have nOX6 := Nat.ne_of_lt O5l
  have U6 : Up w w6 := (U5.alloc _).trans h6
  have sX6 := (sX5.up ((Up.refl _).alloc _)).up h6
  clear h6 D5 D5c D5f O5 O5c O5f U5 sX5
  have D6c := D6.cell
  have D6l := D6.lt
  have D6f := D6.frozen
  have O6c := O6.cell
  have O6l := O6.lt
  have O6f := O6.frozen
  have X6c := X6.cell
  have X6l := X6.lt
  have X6f := X6.frozen
  go_wp2_with (fail)
  refine (h5.out _ (HM.out.up (U6.alloc _))).mono ?_
  rintro e w7 ⟨PS, QS, cS, dS, rfl, sS7, h7⟩
  have D7 := (D6.alloc _).up h7
  have O7 := (O6.alloc _).up h7
  have X7 := (X6.alloc _).up h7
  have Y7 := (Blk.new w6 25 _).up h7
  have nYD7 := Nat.ne_of_gt D6l
  have nDY7 := Nat.ne_of_lt D6l
  have nYO7 := Nat.ne_of_gt O6l
  have nOY7 := Nat.ne_of_lt O6l
  have nYX7 := Nat.ne_of_gt X6l
  have nXY7 := Nat.ne_of_lt X6l
  have U7 : Up w w7 := (U6.alloc _).trans h7
  have sX7 := (sX6.up ((Up.refl _).alloc _)).up h7
  have sY7 := (sY6.up ((Up.refl _).alloc _)).up h7
  clear h7 D6 D6c D6f O6 O6c O6f X6 X6c X6f U6 sX6 sY6
  have D7c := D7.cell
  have D7l := D7.lt
  have D7f := D7.frozen
  have O7c := O7.cell
  have O7l := O7.lt
  have O7f := O7.frozen
  have X7c := X7.cell
  have X7l := X7.lt
  have X7f := X7.frozen
  have Y7c := Y7.cell
  have Y7l := Y7.lt
  have Y7f := Y7.frozen
  go_wp2_with (fail)
  refine (h6.out _ (HM.out.up (U7.alloc _))).mono ?_
  rintro e w8 ⟨PT, QT, cT, dT, rfl, sT8, h8⟩
  have D8 := (D7.alloc _).up h8
  have O8 := (O7.alloc _).up h8
  have X8 := (X7.alloc _).up h8
  have Y8 := (Y7.alloc _).up h8
  have S8 := (Blk.new w7 25 _).up h8
  have nSD8 := Nat.ne_of_gt D7l
  have nDS8 := Nat.ne_of_lt D7l
  have nSO8 := Nat.ne_of_gt O7l
  have nOS8 := Nat.ne_of_lt O7l
  have nSX8 := Nat.ne_of_gt X7l
  have nXS8 := Nat.ne_of_lt X7l
  have nSY8 := Nat.ne_of_gt Y7l
  have nYS8 := Nat.ne_of_lt Y7l
  have U8 : Up w w8 := (U7.alloc _).trans h8
  have sX8 := (sX7.up ((Up.refl _).alloc _)).up h8
  have sY8 := (sY7.up ((Up.refl _).alloc _)).up h8
  have sS8 := (sS7.up ((Up.refl _).alloc _)).up h8
  clear h8 D7 D7c D7f O7 O7c O7f X7 X7c X7f Y7 Y7c Y7f U7 sX7 sY7 sS7
  have D8c := D8.cell
  have D8l := D8.lt
  have D8f := D8.frozen
  have O8c := O8.cell
  have O8l := O8.lt
  have O8f := O8.frozen
  have X8c := X8.cell
  have X8l := X8.lt
  have X8f := X8.frozen
  have Y8c := Y8.cell
  have Y8l := Y8.lt
  have Y8f := Y8.frozen
  have S8c := S8.cell
  have S8l := S8.lt
  have S8f := S8.frozen
  go_wp2_with (fail)
  refine (h7.out _ (HM.out.up (U8.alloc _))).mono ?_
  rintro e w9 ⟨PC, QC, cC, dC, rfl, sC9, h9⟩
  have D9 := (D8.alloc _).up h9
  have O9 := (O8.alloc _).up h9
  have X9 := (X8.alloc _).up h9
  have Y9 := (Y8.alloc _).up h9
  have S9 := (S8.alloc _).up h9
  have T9 := (Blk.new w8 25 _).up h9
  have nTD9 := Nat.ne_of_gt D8l
  have nDT9 := Nat.ne_of_lt D8l
  have nTO9 := Nat.ne_of_gt O8l
  have nOT9 := Nat.ne_of_lt O8l
  have nTX9 := Nat.ne_of_gt X8l
  have nXT9 := Nat.ne_of_lt X8l
  have nTY9 := Nat.ne_of_gt Y8l
  have nYT9 := Nat.ne_of_lt Y8l
  have nTS9 := Nat.ne_of_gt S8l
  have nST9 := Nat.ne_of_lt S8l
  have U9 : Up w w9 := (U8.alloc _).trans h9
  have sX9 := (sX8.up ((Up.refl _).alloc _)).up h9
  have sY9 := (sY8.up ((Up.refl _).alloc _)).up h9
  have sS9 := (sS8.up ((Up.refl _).alloc _)).up h9
  have sT9 := (sT8.up ((Up.refl _).alloc _)).up h9
  clear h9 D8 D8c D8f O8 O8c O8f X8 X8c X8f Y8 Y8c Y8f S8 S8c S8f U8 sX8 sY8 sS8 sT8
  have D9c := D9.cell
  have D9l := D9.lt
  have D9f := D9.frozen
  have O9c := O9.cell
  have O9l := O9.lt
  have O9f := O9.frozen
  have X9c := X9.cell
  have X9l := X9.lt
  have X9f := X9.frozen
  have Y9c := Y9.cell
  have Y9l := Y9.lt
  have Y9f := Y9.frozen
  have S9c := S9.cell
  have S9l := S9.lt
  have S9f := S9.frozen
  have T9c := T9.cell
  have T9l := T9.lt
  have T9f := T9.frozen
  go_wp2_with (fail)
  refine (h8.out _ (HM.out.up (U9.alloc _))).mono ?_
  rintro e w10 ⟨PE, QE, cE, dE, rfl, sE10, h10⟩
  have D10 := (D9.alloc _).up h10
  have O10 := (O9.alloc _).up h10
  have X10 := (X9.alloc _).up h10
  have Y10 := (Y9.alloc _).up h10
  have S10 := (S9.alloc _).up h10
  have T10 := (T9.alloc _).up h10
  have C10 := (Blk.new w9 25 _).up h10
  have nCD10 := Nat.ne_of_gt D9l
  have nDC10 := Nat.ne_of_lt D9l
  have nCO10 := Nat.ne_of_gt O9l
  have nOC10 := Nat.ne_of_lt O9l
  have nCX10 := Nat.ne_of_gt X9l
  have nXC10 := Nat.ne_of_lt X9l
  have nCY10 := Nat.ne_of_gt Y9l
  have nYC10 := Nat.ne_of_lt Y9l
  have nCS10 := Nat.ne_of_gt S9l
  have nSC10 := Nat.ne_of_lt S9l
  have nCT10 := Nat.ne_of_gt T9l
  have nTC10 := Nat.ne_of_lt T9l
  have U10 : Up w w10 := (U9.alloc _).trans h10
  have sX10 := (sX9.up ((Up.refl _).alloc _)).up h10
  have sY10 := (sY9.up ((Up.refl _).alloc _)).up h10
  have sS10 := (sS9.up ((Up.refl _).alloc _)).up h10
  have sT10 := (sT9.up ((Up.refl _).alloc _)).up h10
  have sC10 := (sC9.up ((Up.refl _).alloc _)).up h10
  clear h10 D9 D9c D9f O9 O9c O9f X9 X9c X9f Y9 Y9c Y9f S9 S9c S9f T9 T9c T9f U9 sX9 sY9 sS9 sT9 sC9
  have D10c := D10.cell
  have D10l := D10.lt
  have D10f := D10.frozen
  have O10c := O10.cell
  have O10l := O10.lt
  have O10f := O10.frozen
  have X10c := X10.cell
  have X10l := X10.lt
  have X10f := X10.frozen
  have Y10c := Y10.cell
  have Y10l := Y10.lt
  have Y10f := Y10.frozen
  have S10c := S10.cell
  have S10l := S10.lt
  have S10f := S10.frozen
  have T10c := T10.cell
  have T10l := T10.lt
  have T10f := T10.frozen
  have C10c := C10.cell
  have C10l := C10.lt
  have C10f := C10.frozen
  go_wp2_with (fail)
  obtain ⟨W0, hW0⟩ : ∃ W0 : World, W0 = (w10.alloc (.cells #[.int .i64 C.n, .slice (some PE) C.n cE, .slice (some QE) C.n dE] 25)).drew := ⟨_, rfl⟩
  have U0 : Up W0 (w10.alloc (.cells #[.int .i64 C.n, .slice (some PE) C.n cE, .slice (some QE) C.n dE] 25)).drew := by rw [hW0]; exact Up.refl _
  have D0 := (D10.alloc (.cells #[.int .i64 C.n, .slice (some PE) C.n cE, .slice (some QE) C.n dE] 25)).drew
  have O0 := (O10.alloc (.cells #[.int .i64 C.n, .slice (some PE) C.n cE, .slice (some QE) C.n dE] 25)).drew
  have X0 := (X10.alloc (.cells #[.int .i64 C.n, .slice (some PE) C.n cE, .slice (some QE) C.n dE] 25)).drew
  have Y0 := (Y10.alloc (.cells #[.int .i64 C.n, .slice (some PE) C.n cE, .slice (some QE) C.n dE] 25)).drew
  have S0 := (S10.alloc (.cells #[.int .i64 C.n, .slice (some PE) C.n cE, .slice (some QE) C.n dE] 25)).drew
  have T0 := (T10.alloc (.cells #[.int .i64 C.n, .slice (some PE) C.n cE, .slice (some QE) C.n dE] 25)).drew
  have C0 := (C10.alloc (.cells #[.int .i64 C.n, .slice (some PE) C.n cE, .slice (some QE) C.n dE] 25)).drew
  have E0 := (Blk.new w10 25 #[.int .i64 C.n, .slice (some PE) C.n cE, .slice (some QE) C.n dE]).drew
  have UW0 := (U10.alloc (.cells #[.int .i64 C.n, .slice (some PE) C.n cE, .slice (some QE) C.n dE] 25)).drew
  have sX0 := sX10.up (((Up.refl _).alloc (.cells #[.int .i64 C.n, .slice (some PE) C.n cE, .slice (some QE) C.n dE] 25)).drew)
  have sY0 := sY10.up (((Up.refl _).alloc (.cells #[.int .i64 C.n, .slice (some PE) C.n cE, .slice (some QE) C.n dE] 25)).drew)
  have sS0 := sS10.up (((Up.refl _).alloc (.cells #[.int .i64 C.n, .slice (some PE) C.n cE, .slice (some QE) C.n dE] 25)).drew)
  have sT0 := sT10.up (((Up.refl _).alloc (.cells #[.int .i64 C.n, .slice (some PE) C.n cE, .slice (some QE) C.n dE] 25)).drew)
  have sC0 := sC10.up (((Up.refl _).alloc (.cells #[.int .i64 C.n, .slice (some PE) C.n cE, .slice (some QE) C.n dE] 25)).drew)
  have sE0 := sE10.up (((Up.refl _).alloc (.cells #[.int .i64 C.n, .slice (some PE) C.n cE, .slice (some QE) C.n dE] 25)).drew)
  rw [← hW0] at D0 O0 X0 Y0 S0 T0 C0 E0 UW0 sX0 sY0 sS0 sT0 sC0 sE0
  have HW0 := Lib.hid hW0
  have M0 := HM.out.up UW0
  have O9 := HO.out.up UW0
  clear hW0 U10 D10 D10c D10f O10 O10c O10f X10 X10c X10f Y10 Y10c Y10f S10 S10c S10f T10 T10c T10f C10 C10c C10f sX10 sY10 sS10 sT10 sC10 sE10
  go_region_held3 (fun w' => (∀ i, w'.cell? ⟨w5.heap.size, i, none⟩ = (#[.int .i64 X.n, .slice (some PX) X.n cX, .slice (some QX) X.n dX] : Array Value)[i]?) ∧ (∀ i, w'.cell? ⟨w6.heap.size, i, none⟩ = (#[.int .i64 X.n, .slice (some PY) X.n cY, .slice (some QY) X.n dY] : Array Value)[i]?) ∧ (∀ i, w'.cell? ⟨w7.heap.size, i, none⟩ = (#[.int .i64 S.n, .slice (some PS) S.n cS, .slice (some QS) S.n dS] : Array Value)[i]?) ∧ (∀ i, w'.cell? ⟨w8.heap.size, i, none⟩ = (#[.int .i64 S.n, .slice (some PT) S.n cT, .slice (some QT) S.n dT] : Array Value)[i]?) ∧ (∀ i, w'.cell? ⟨w9.heap.size, i, none⟩ = (#[.int .i64 C.n, .slice (some PC) C.n cC, .slice (some QC) C.n dC] : Array Value)[i]?) ∧ (∀ i, w'.cell? ⟨w10.heap.size, i, none⟩ = (#[.int .i64 C.n, .slice (some PE) C.n cE, .slice (some QE) C.n dE] : Array Value)[i]?) ∧ (∀ i, w'.cell? ⟨w.heap.size + 1, i, none⟩ = (#[.int .i64 m.n, .slice (some P) m.n c, .slice (some Q) m.n d] : Array Value)[i]?))
    (exact ⟨fun i => (Blk.up X0 (by assumption)).cell i, fun i => (Blk.up Y0 (by assumption)).cell i, fun i => (Blk.up S0 (by assumption)).cell i, fun i => (Blk.up T0 (by assumption)).cell i, fun i => (Blk.up C0 (by assumption)).cell i, fun i => (Blk.up E0 (by assumption)).cell i, fun i => (Blk.up D0 (by assumption)).cell i⟩)
    (first
      | (go_at_call 21; ((with_reducible refine (rsame_self X PX QX PY QY cX dX cY dY _ (sX0.up (by assumption)) (sY0.up (by assumption))).mono ?_); rintro e wz ⟨rfl, hz⟩; have UZ := Up.trans (a := W0) (by assumption) hz))
      | (go_at_call 21; ((with_reducible refine (rsame_self S PS QS PT QT cS dS cT dT _ (sS0.up (by assumption)) (sT0.up (by assumption))).mono ?_); rintro e wz ⟨rfl, hz⟩; have UZ := Up.trans (a := W0) (by assumption) hz))
      | (go_at_call 21; ((with_reducible refine (rsame_self C PC QC PE QE cC dC cE dE _ (sC0.up (by assumption)) (sE0.up (by assumption))).mono ?_); rintro e wz ⟨rfl, hz⟩; have UZ := Up.trans (a := W0) (by assumption) hz))
      | (go_at_call 22; ((with_reducible refine (h9.out _ (M0.up (by assumption))).mono ?_); rintro e wz ⟨PV, QV, cV, dV, rfl, sV, hz⟩; have UZ := Up.trans (a := W0) (by assumption) hz))
      | (go_at_call 23; ((with_reducible refine (h10.out _ (M0.up (by assumption))).mono ?_); rintro e wz ⟨PG, QG, cG, dG, rfl, sG, hz⟩; have UZ := Up.trans (a := W0) (by assumption) hz))
      | (go_at_call 21; ((with_reducible refine (rsame_self V PV QV PG QG cV dV cG dG _ (sV.up (by assumption)) sG).mono ?_); rintro e wz ⟨rfl, hz⟩; have UZ := Up.trans (a := W0) (by assumption) hz))
      | (go_at_call 21; ((with_reducible refine (rsame_self V PV QV PG QG cV dV cG dG _ sV (sG.up (by assumption))).mono ?_); rintro e wz ⟨rfl, hz⟩; have UZ := Up.trans (a := W0) (by assumption) hz)))
  all_goals
    go_wp2_with (fail)
    have U1 : Up W0 wz.drew := UZ.drew
    go_region_held3 (fun w' => (∀ i, w'.cell? ⟨w.heap.size + 1, i, none⟩ = (#[.int .i64 m.n, .slice (some P) m.n c, .slice (some Q) m.n d] : Array Value)[i]?) ∧ (∀ i, w'.cell? ⟨w.heap.size + 1 + 1, i, none⟩ = (#[.int .i64 NO, .slice AO0 nO0 cO0, .slice AO1 nO1 cO1] : Array Value)[i]?))
      (exact ⟨fun i => (Blk.up D0 (by assumption)).cell i, fun i => (Blk.up O0 (by assumption)).cell i⟩)
      (first
        | (go_at_call 24; ((with_reducible refine (g1.out _ (M0.up (by assumption)) (O9.up (by assumption))).mono ?_); rintro e wy ⟨rfl, hz⟩; have UZ := Up.trans (a := W0) (by assumption) hz))
        | (go_at_call 21; ((with_reducible refine (g2.out _ (M0.up (by assumption)) (O9.up (by assumption))).mono ?_); rintro e wy ⟨rfl, hz⟩; have UZ := Up.trans (a := W0) (by assumption) hz)))
    all_goals
      go_wp2
      go_ret
      exact ⟨rfl, UW0.trans UZ⟩

theorem walk (NM : Int) (AM0 AM1 : Option Addr) (nM0 nM1 cM0 cM1 : Nat) (xsM ysM : List Int) (a : Int) (b : Int) (v : Int) (k : Int) (NO : Int) (AO0 AO1 : Option Addr) (nO0 nO1 cO0 cO1 : Nat) (xsO ysO : List Int) (w : World) (hxM : SlOk w AM0 nM0 cM0 xsM) (hyM : SlOk w AM1 nM1 cM1 ysM) (ha : U64 a) (hb : U64 b) (hv : U64 v) (hk : I64 k) (hxO : SlOk w AO0 nO0 cO0 xsO) (hyO : SlOk w AO1 nO1 cO1 ysO) :
    Calls Try.prog 3 #[.agg #[.int .i64 NM, .slice AM0 nM0 cM0, .slice AM1 nM1 cM1, .int .u64 a, .int .u64 b, .int .u64 v, .int .i64 k, .int .i64 NO, .slice AO0 nO0 cO0, .slice AO1 nO1 cO1]] w fun e w' => e = .returned (.bool true) ∧ Up w w' := by
  cases hfew : few NM nM0 nM1
  · exact walk_no NM AM0 AM1 nM0 nM1 cM0 cM1 xsM ysM a b v k NO AO0 AO1 nO0 nO1 cO0 cO1 xsO ysO hfew w
  · obtain ⟨rfl, rfl, h16, h200⟩ := few_is hfew
    obtain ⟨P, Q, rfl, rfl, hm⟩ := sits_of hxM hyM h16 (by omega)
    exact walk_yes ⟨nM0, xsM, ysM⟩ P Q cM0 cM1 a b v k NO AO0 AO1 nO0 nO1 cO0 cO1 xsO ysO w hm h200 ha hb hv hk (lies_of hxO hyO)
theorem cells : Try.prog.cellsOf 28 = 10 := by kernel_rfl
theorem opened {H : Type} {enc : TypeId × Value → H} {w : World} {r : Reach} {b0 : Nat} {vl_ : Value} {d : DataW H} {p : List MemPlace} (hvl_ : Value.okWide Try.prog w r b0 28 vl_) (h_ : DataW.Trod enc Try.prog w 0 (fun _ => true) true 28 vl_ d p) :
    ∃ (NM : Int) (AM0 AM1 : Option Addr) (nM0 nM1 cM0 cM1 : Nat) (xsM ysM : List Int) (a : Int) (b : Int) (v : Int) (k : Int) (NO : Int) (AO0 AO1 : Option Addr) (nO0 nO1 cO0 cO1 : Nat) (xsO ysO : List Int), vl_ = .agg #[.int .i64 NM, .slice AM0 nM0 cM0, .slice AM1 nM1 cM1, .int .u64 a, .int .u64 b, .int .u64 v, .int .i64 k, .int .i64 NO, .slice AO0 nO0 cO0, .slice AO1 nO1 cO1] ∧ I64 NM ∧ SlOk w AM0 nM0 cM0 xsM ∧ SlOk w AM1 nM1 cM1 ysM ∧ U64 a ∧ U64 b ∧ U64 v ∧ I64 k ∧ I64 NO ∧ SlOk w AO0 nO0 cO0 xsO ∧ SlOk w AO1 nO1 cO1 ysO := by
  obtain ⟨⟨l⟩, rfl, hsz⟩ := okWide_struct Try.underlying28 hvl_
  match l, hsz.trans cells with
  | [z0_, z1_, z2_, z3_, z4_, z5_, z6_, z7_, z8_, z9_], _ =>
    obtain ⟨fuel, hf_⟩ := h_
    obtain ⟨ys_, n_, _, _, _, hlen_, hg_⟩ := DataW.trod_struct Try.underlying28 hf_
    have f0_ := hg_ 0 _ rfl
    have f1_ := hg_ 1 _ rfl
    have f2_ := hg_ 2 _ rfl
    have f3_ := hg_ 3 _ rfl
    have f4_ := hg_ 4 _ rfl
    have f5_ := hg_ 5 _ rfl
    match ys_, hlen_ with
    | [y0_, y1_, y2_, y3_, y4_, y5_], _ =>
      change DataW.trod enc Try.prog w 0 (fun _ => true) true n_ 25 (([z0_, z1_, z2_, z3_, z4_, z5_, z6_, z7_, z8_, z9_].drop 0).take (Try.prog.cellsOf 25)) = some y0_ at f0_
      rw [cells_mem] at f0_
      change DataW.trod enc Try.prog w 0 (fun _ => true) true n_ 26 (([z0_, z1_, z2_, z3_, z4_, z5_, z6_, z7_, z8_, z9_].drop 3).take (Try.prog.cellsOf 26)) = some y1_ at f1_
      rw [cells_u64] at f1_
      change DataW.trod enc Try.prog w 0 (fun _ => true) true n_ 26 (([z0_, z1_, z2_, z3_, z4_, z5_, z6_, z7_, z8_, z9_].drop 4).take (Try.prog.cellsOf 26)) = some y2_ at f2_
      rw [cells_u64] at f2_
      change DataW.trod enc Try.prog w 0 (fun _ => true) true n_ 26 (([z0_, z1_, z2_, z3_, z4_, z5_, z6_, z7_, z8_, z9_].drop 5).take (Try.prog.cellsOf 26)) = some y3_ at f3_
      rw [cells_u64] at f3_
      change DataW.trod enc Try.prog w 0 (fun _ => true) true n_ 3 (([z0_, z1_, z2_, z3_, z4_, z5_, z6_, z7_, z8_, z9_].drop 6).take (Try.prog.cellsOf 3)) = some y4_ at f4_
      rw [cells_int] at f4_
      change DataW.trod enc Try.prog w 0 (fun _ => true) true n_ 25 (([z0_, z1_, z2_, z3_, z4_, z5_, z6_, z7_, z8_, z9_].drop 7).take (Try.prog.cellsOf 25)) = some y5_ at f5_
      rw [cells_mem] at f5_
      obtain ⟨NM, AM0, AM1, nM0, nM1, cM0, cM1, xsM, ysM, rfl, rfl, rfl, hNM, hxM, hyM⟩ := mem_open (v0 := z0_) (v1 := z1_) (v2 := z2_) f0_
      obtain ⟨a, rfl, ha⟩ := u64_open (v := z3_) f1_
      obtain ⟨b, rfl, hb⟩ := u64_open (v := z4_) f2_
      obtain ⟨v, rfl, hv⟩ := u64_open (v := z5_) f3_
      obtain ⟨k, rfl, hk⟩ := int_open (v := z6_) f4_
      obtain ⟨NO, AO0, AO1, nO0, nO1, cO0, cO1, xsO, ysO, rfl, rfl, rfl, hNO, hxO, hyO⟩ := mem_open (v0 := z7_) (v1 := z8_) (v2 := z9_) f5_
      exact ⟨NM, AM0, AM1, nM0, nM1, cM0, cM1, xsM, ysM, a, b, v, k, NO, AO0, AO1, nO0, nO1, cO0, cO1, xsO, ysO, rfl, hNM, hxM, hyM, ha, hb, hv, hk, hNO, hxO, hyO⟩

theorem own : ownKnob Try.prog.godebug = none := by kernel_rfl
set_option maxRecDepth 100000 in
theorem lifted (os : Os) (started : os.Started) (H : Type) (enc : TypeId × Value → H) :
    ReturnsInHanded {} Try.checked os 3 .any (Rows.arenaActsSpec.pre6 enc Try.prog Try.f3 Rows.arenaActsRow.domain false) (Rows.arenaActsSpec.post enc Try.prog Try.f3 false true false false) := by
  refine returnsInHanded_of_change (C := Try.checked) own started (by kernel_rfl) Try.func3
    (ChangeSpec.witness6 (enc := enc) (C := Try.checked) false ⟨#[], #[.agg #[.int .i64 0, .slice none 0 0, .slice none 0 0, .int .u64 0, .int .u64 0, .int .u64 0, .int .i64 0, .int .i64 0, .slice none 0 0, .slice none 0 0]], []⟩ 8 (by kernel_rfl) (by kernel_rfl) (by kernel_rfl) (by kernel_rfl)) ?_
  intro W base args ds gs before hval0 hW hcnd _
  have hval : ∀ (j : Nat) t v, Try.f3.params[j]? = some t → args[j]? = some v → Value.okWide Try.prog W .any base t v := hval0
  have hW' := hW
  obtain ⟨p, q, hA0, hV, rfl, hfz, hnd⟩ := hW
  have hA : DataW.TrodAll enc Try.prog W 0 (fun _ => true) true Try.f3.params.toList args.toList ds p := hA0
  rw [Try.params3] at hA hval
  obtain ⟨v0, vs0, d0, ds0, p0, q0, hargs, rfl, rfl, h0, r0⟩ := trodAll_cons hA
  obtain ⟨rfl, rfl, rfl⟩ := trodAll_nil r0
  obtain rfl : args = #[v0] := by cases args; simp_all
  obtain ⟨rfl, rfl⟩ := trodVars_none hV
  have h0k := h0
  obtain ⟨NM, AM0, AM1, nM0, nM1, cM0, cM1, xsM, ysM, a, b, v, k, NO, AO0, AO1, nO0, nO1, cO0, cO1, xsO, ysO, rfl, hNM, hxM, hyM, ha, hb, hv, hk, hNO, hxO, hyO⟩ := opened (hval 0 28 v0 rfl rfl) h0
  clear hA0 hval0
  simp only [List.append_nil] at hW'
  refine (walk NM AM0 AM1 nM0 nM1 cM0 cM1 xsM ysM a b v k NO AO0 AO1 nO0 nO1 cO0 cO1 xsO ysO W hxM hyM ha hb hv hk hxO hyO).mono fun e W' ⟨he, hg⟩ => ?_
  subst he
  exact ⟨_, rfl, post_below (pa := p0) (pv := []) hW' (fun _ _ _ => (trodAll_cons_mk (shut_bool Try.underlying4 _) trodAll_mk0))
    (fun sp hsp => by
      have t := trodAll_cons_mk (trod_keeps (sp := sp) (by kernel_rfl) (of_decide_eq_true (by kernel_rfl)) h0k hg (fun x hx => hW'.lt x hx) (fun x hx => hsp x hx)) trodAll_mk0
      rw [List.append_nil] at t
      exact t) (fun _ _ => rfl) (by simp)
    hg (ok_one (by kernel_rfl) rfl (okWide_bool_mk Try.underlying4 _))⟩

theorem over : Rows.arenaActsRow.holds Try.pinned (OpenSpec.ofChange Rows.arenaActsSpec) :=
  OpenClaim.holds_of_wide 3 Try.f3 rfl rfl rfl rfl rfl rfl rfl ⟨rfl, rfl, rfl, rfl, rfl⟩ rfl rfl rfl rfl rfl (by kernel_rfl) Try.func3 (by kernel_rfl)
    (of_decide_eq_true (by kernel_rfl)) (by unfold Func.isWrapper; first | (rw [if_pos (by decide +kernel)]; kernel_rfl) | (rw [if_neg (by decide +kernel)]; exact ⟨rfl, rfl⟩))
    (fun os started H enc _ => lifted os started H enc)

theorem proved : Rows.ArenaActsSaid :=
  over
#print axioms proved
end Go.Proofs.Ytoneandmbnfcoaa.LArenaActs
