/- The statement ArenaTwo is proved for every input, from contracts of the functions that it calls; no condition is added. -/
import Derived.Test.YtoneandmbnfcoaaPur
namespace Go.Proofs.Ytoneandmbnfcoaa.LArenaTwo
open Go.Joins Go.ChangeShapes Go.WideShapes Go.ChangeAt Go.RowKit Go.Deep
set_option linter.unusedVariables false
set_option linter.unusedSimpArgs false

set_option maxHeartbeats 2000000 in
theorem walk_no (NM : Int) (AM0 AM1 : Option Addr) (nM0 nM1 cM0 cM1 : Nat) (xsM ysM : List Int) (a : Int) (v : Int) (b : Int) (x : Int) (hfew : few NM nM0 nM1 = false) (w : World) :
    Calls Try.prog 10 #[.agg #[.int .i64 NM, .slice AM0 nM0 cM0, .slice AM1 nM1 cM1, .int .u64 a, .int .u64 v, .int .u64 b, .int .u64 x]] w fun e w' => e = .returned (.bool true) ∧ Up w w' := by
  have hf := fun w => few_any NM AM0 AM1 nM0 nM1 cM0 cM1 w
  rw [hfew] at hf
  have hf := Lib.hid hf
  clear hfew
  go_enter Try.func10, Try.ntmps10
  go_wp2_with (fail)
  refine (shown_any _).mono ?_
  rintro e w1 ⟨rfl, h1⟩
  have D1 := (Blk.new _ 25 _).up h1
  simp at D1
  have U1 : Up w w1 := (((Up.refl w).alloc _).alloc _).trans h1
  clear h1
  have D1c := D1.cell
  have D1l := D1.lt
  have D1f := D1.frozen
  go_wp2_with (fail)
  refine (hf.out _).mono ?_
  rintro e w2 ⟨rfl, h2⟩
  have D2 := D1.up h2
  have U2 : Up w w2 := U1.trans h2
  clear h2 D1 D1c D1f U1
  have D2c := D2.cell
  have D2l := D2.lt
  have D2f := D2.frozen
  go_wp2
  go_ret
  exact ⟨rfl, U2⟩

set_option maxHeartbeats 4000000 in
theorem walk_same (m : Me) (P Q : Addr) (c d : Nat) (a : Int) (v : Int) (x : Int) (w : World) (hm : Sits w m P Q c d) (hn : m.n ≤ 200) (ha : U64 a) (hv : U64 v) (hx : U64 x)  :
    Calls Try.prog 10 #[.agg #[.int .i64 m.n, .slice (some P) m.n c, .slice (some Q) m.n d, .int .u64 a, .int .u64 v, .int .u64 a, .int .u64 x]] w fun e w' => e = .returned (.bool true) ∧ Up w w' := by
  have hfew : few m.n m.n m.n = true := by unfold few rt; simp; have := hm.1.1; omega
  have hf := fun w => few_any m.n (some P) (some Q) m.n m.n c d w
  rw [hfew] at hf
  have hf := Lib.hid hf
  have hok := Lib.hid hm.1
  have HM := Lib.hid hm
  clear hfew hm
  go_enter Try.func10, Try.ntmps10
  go_wp2_with (fail)
  refine (shown_any _).mono ?_
  rintro e w1 ⟨rfl, h1⟩
  have D1 := (Blk.new _ 25 _).up h1
  simp at D1
  have U1 : Up w w1 := (((Up.refl w).alloc _).alloc _).trans h1
  clear h1
  have D1c := D1.cell
  have D1l := D1.lt
  have D1f := D1.frozen
  go_wp2_with (fail)
  refine (hf.out _).mono ?_
  rintro e w2 ⟨rfl, h2⟩
  have D2 := D1.up h2
  have U2 : Up w w2 := U1.trans h2
  clear h2 D1 D1c D1f U1
  have D2c := D2.cell
  have D2l := D2.lt
  have D2f := D2.frozen
  go_wp2
  go_ret
  exact ⟨rfl, U2⟩

set_option maxHeartbeats 4000000 in
theorem walk_11 (m : Me) (P Q : Addr) (c d : Nat) (a : Int) (v : Int) (b : Int) (x : Int) (w : World) (hm : Sits w m P Q c d) (hn : m.n ≤ 200) (ha : U64 a) (hv : U64 v) (hb : U64 b) (hx : U64 x) (hne : a ≠ b) (ta : m.there a) (tb : m.there b) :
    Calls Try.prog 10 #[.agg #[.int .i64 m.n, .slice (some P) m.n c, .slice (some Q) m.n d, .int .u64 a, .int .u64 v, .int .u64 b, .int .u64 x]] w fun e w' => e = .returned (.bool true) ∧ Up w w' := by
  have hfew : few m.n m.n m.n = true := by unfold few rt; simp; have := hm.1.1; omega
  have hf := fun w => few_any m.n (some P) (some Q) m.n m.n c d w
  rw [hfew] at hf
  have hf := Lib.hid hf
  have hok := Lib.hid hm.1
  have HM := Lib.hid hm
  clear hfew hm
  have h1 := Lib.hid (fun (W : World) (hS : Sits W m P Q c d) => show Calls Try.prog 15 #[.agg #[.int .i64 m.n, .slice (some P) m.n c, .slice (some Q) m.n d], .int .u64 a, .int .u64 v] W (Gives1 W (m.st a v) (.int .i64 0)) from by
    have h := store_any (m) a v P Q c d W hS ha
    rw [show m.lde a = 0 from if_pos ta] at h
    exact h)
  have h2 := Lib.hid (fun (W : World) (P Q : Addr) (c d : Nat) (hS : Sits W (m.st a v) P Q c d) => show Calls Try.prog 15 #[.agg #[.int .i64 (m.st a v).n, .slice (some P) (m.st a v).n c, .slice (some Q) (m.st a v).n d], .int .u64 b, .int .u64 x] W (Gives1 W ((m.st a v).st b x) (.int .i64 0)) from by
    have h := store_any (m.st a v) b x P Q c d W hS hb
    rw [lde_n (Me.st_n m a v), show m.lde b = 0 from if_pos tb] at h
    exact h)
  have h3 := Lib.hid (fun (W : World) (hS : Sits W m P Q c d) => show Calls Try.prog 15 #[.agg #[.int .i64 m.n, .slice (some P) m.n c, .slice (some Q) m.n d], .int .u64 b, .int .u64 x] W (Gives1 W (m.st b x) (.int .i64 0)) from by
    have h := store_any (m) b x P Q c d W hS hb
    rw [show m.lde b = 0 from if_pos tb] at h
    exact h)
  have h4 := Lib.hid (fun (W : World) (P Q : Addr) (c d : Nat) (hS : Sits W (m.st b x) P Q c d) => show Calls Try.prog 15 #[.agg #[.int .i64 (m.st b x).n, .slice (some P) (m.st b x).n c, .slice (some Q) (m.st b x).n d], .int .u64 a, .int .u64 v] W (Gives1 W ((m.st a v).st b x) (.int .i64 0)) from by
    have h := store_any (m.st b x) a v P Q c d W hS ha
    rw [← st_comm hne, lde_n (Me.st_n m b x), show m.lde a = 0 from if_pos ta] at h
    exact h)
  have h5 := Lib.hid (fun (W : World) => show Calls Try.prog 30 #[.agg #[.int .i64 m.n, .slice (some P) m.n c, .slice (some Q) m.n d], .int .u64 a] W fun e w' => e = .returned (.bool true) ∧ Up W w' from by
    have h := rthere_any m a P Q c d W ha
    rw [decide_eq_true ta] at h
    exact h)
  have h6 := Lib.hid (fun (W : World) => show Calls Try.prog 30 #[.agg #[.int .i64 m.n, .slice (some P) m.n c, .slice (some Q) m.n d], .int .u64 b] W fun e w' => e = .returned (.bool true) ∧ Up W w' from by
    have h := rthere_any m b P Q c d W hb
    rw [decide_eq_true tb] at h
    exact h)
  have h7 := Lib.hid (fun (P Q P' Q' : Addr) (c d c' d' : Nat) (W : World) => rsame_self ((m.st a v).st b x) P Q P' Q' c d c' d' W)
  have hab : (a == b) = false := beq_eq_false_iff_ne.mpr hne
  generalize (m.st a v).st b x = V at h2 h4 h7
  generalize m.st a v = X at h1 h2
  generalize m.st b x = Y at h3 h4
  clear ta tb hne
  go_enter Try.func10, Try.ntmps10
  go_wp2_with (fail)
  refine (shown_any _).mono ?_
  rintro e w1 ⟨rfl, h1⟩
  have D1 := (Blk.new _ 25 _).up h1
  simp at D1
  have U1 : Up w w1 := (((Up.refl w).alloc _).alloc _).trans h1
  clear h1
  have D1c := D1.cell
  have D1l := D1.lt
  have D1f := D1.frozen
  go_wp2_with (fail)
  refine (hf.out _).mono ?_
  rintro e w2 ⟨rfl, h2⟩
  have D2 := D1.up h2
  have U2 : Up w w2 := U1.trans h2
  clear h2 D1 D1c D1f U1
  have D2c := D2.cell
  have D2l := D2.lt
  have D2f := D2.frozen
  go_wp2_with (fail)
  refine (h1.out _ (HM.out.up U2)).mono ?_
  rintro e w3 ⟨PX, QX, cX, dX, rfl, sX3, h3⟩
  have D3 := D2.up h3
  have U3 : Up w w3 := U2.trans h3
  clear h3 D2 D2c D2f U2
  have D3c := D3.cell
  have D3l := D3.lt
  have D3f := D3.frozen
  go_wp2_with (fail)
  refine (h2.out _ _ _ _ _ (sX3.up ((Up.refl _).alloc _))).mono ?_
  rintro e w4 ⟨PV, QV, cV, dV, rfl, sV4, h4⟩
  have D4 := (D3.alloc _).up h4
  have X4 := (Blk.new w3 25 _).up h4
  have nXD4 := Nat.ne_of_gt D3l
  have nDX4 := Nat.ne_of_lt D3l
  have U4 : Up w w4 := (U3.alloc _).trans h4
  have sX4 := (sX3.up ((Up.refl _).alloc _)).up h4
  clear h4 D3 D3c D3f U3 sX3
  have D4c := D4.cell
  have D4l := D4.lt
  have D4f := D4.frozen
  have X4c := X4.cell
  have X4l := X4.lt
  have X4f := X4.frozen
  go_wp2_with (fail)
  refine (h3.out _ (HM.out.up (U4.set3 (by omega) _ _ _))).mono ?_
  rintro e w5 ⟨PY, QY, cY, dY, rfl, sY5, h5⟩
  have D5 := (D4.far3 (by omega) _ _ _).up h5
  have X5 := (X4.set3 _ _ _).up h5
  have U5 : Up w w5 := (U4.set3 (by omega) _ _ _).trans h5
  have sX5 := (sX4.far3 X4 _ _ _).up h5
  have sV5 := (sV4.far3 X4 _ _ _).up h5
  clear h5 D4 D4c D4f X4 X4c X4f U4 sX4 sV4
  have D5c := D5.cell
  have D5l := D5.lt
  have D5f := D5.frozen
  have X5c := X5.cell
  have X5l := X5.lt
  have X5f := X5.frozen
  go_wp2_with (fail)
  refine (h4.out _ _ _ _ _ (sY5.up ((Up.refl _).alloc _))).mono ?_
  rintro e w6 ⟨PZ, QZ, cZ, dZ, rfl, sZ6, h6⟩
  have D6 := (D5.alloc _).up h6
  have X6 := (X5.alloc _).up h6
  have Y6 := (Blk.new w5 25 _).up h6
  have nYD6 := Nat.ne_of_gt D5l
  have nDY6 := Nat.ne_of_lt D5l
  have nYX6 := Nat.ne_of_gt X5l
  have nXY6 := Nat.ne_of_lt X5l
  have U6 : Up w w6 := (U5.alloc _).trans h6
  have sX6 := (sX5.up ((Up.refl _).alloc _)).up h6
  have sV6 := (sV5.up ((Up.refl _).alloc _)).up h6
  have sY6 := (sY5.up ((Up.refl _).alloc _)).up h6
  clear h6 D5 D5c D5f X5 X5c X5f U5 sX5 sV5 sY5
  have D6c := D6.cell
  have D6l := D6.lt
  have D6f := D6.frozen
  have X6c := X6.cell
  have X6l := X6.lt
  have X6f := X6.frozen
  have Y6c := Y6.cell
  have Y6l := Y6.lt
  have Y6f := Y6.frozen
  go_wp2_with (fail)
  refine (h5.out _).mono ?_
  rintro e w7 ⟨rfl, h7⟩
  have D7 := (D6.far3 (by omega) _ _ _).up h7
  have X7 := (X6.far3 (by omega) _ _ _).up h7
  have Y7 := (Y6.set3 _ _ _).up h7
  have U7 : Up w w7 := (U6.set3 (by omega) _ _ _).trans h7
  have sX7 := (sX6.far3 Y6 _ _ _).up h7
  have sV7 := (sV6.far3 Y6 _ _ _).up h7
  have sY7 := (sY6.far3 Y6 _ _ _).up h7
  have sZ7 := (sZ6.far3 Y6 _ _ _).up h7
  clear h7 D6 D6c D6f X6 X6c X6f Y6 Y6c Y6f U6 sX6 sV6 sY6 sZ6
  have D7c := D7.cell
  have D7l := D7.lt
  have D7f := D7.frozen
  have X7c := X7.cell
  have X7l := X7.lt
  have X7f := X7.frozen
  have Y7c := Y7.cell
  have Y7l := Y7.lt
  have Y7f := Y7.frozen
  go_wp2_with (fail)
  refine (h6.out _).mono ?_
  rintro e w8 ⟨rfl, h8⟩
  have D8 := D7.up h8
  have X8 := X7.up h8
  have Y8 := Y7.up h8
  have U8 : Up w w8 := U7.trans h8
  have sX8 := sX7.up h8
  have sV8 := sV7.up h8
  have sY8 := sY7.up h8
  have sZ8 := sZ7.up h8
  clear h8 D7 D7c D7f X7 X7c X7f Y7 Y7c Y7f U7 sX7 sV7 sY7 sZ7
  have D8c := D8.cell
  have D8l := D8.lt
  have D8f := D8.frozen
  have X8c := X8.cell
  have X8l := X8.lt
  have X8f := X8.frozen
  have Y8c := Y8.cell
  have Y8l := Y8.lt
  have Y8f := Y8.frozen
  go_wp2_with (fail)
  refine (h7.out _ _ _ _ _ _ _ _ _ sV8 sZ8).mono ?_
  rintro e w9 ⟨rfl, h9⟩
  have D9 := D8.up h9
  have X9 := X8.up h9
  have Y9 := Y8.up h9
  have U9 : Up w w9 := U8.trans h9
  have sX9 := sX8.up h9
  have sV9 := sV8.up h9
  have sY9 := sY8.up h9
  have sZ9 := sZ8.up h9
  clear h9 D8 D8c D8f X8 X8c X8f Y8 Y8c Y8f U8 sX8 sV8 sY8 sZ8
  have D9c := D9.cell
  have D9l := D9.lt
  have D9f := D9.frozen
  have X9c := X9.cell
  have X9l := X9.lt
  have X9f := X9.frozen
  have Y9c := Y9.cell
  have Y9l := Y9.lt
  have Y9f := Y9.frozen
  go_wp2
  go_ret
  exact ⟨rfl, U9⟩

set_option maxHeartbeats 4000000 in
theorem walk_10 (m : Me) (P Q : Addr) (c d : Nat) (a : Int) (v : Int) (b : Int) (x : Int) (w : World) (hm : Sits w m P Q c d) (hn : m.n ≤ 200) (ha : U64 a) (hv : U64 v) (hb : U64 b) (hx : U64 x) (hne : a ≠ b) (ta : m.there a) (tb : ¬ m.there b) :
    Calls Try.prog 10 #[.agg #[.int .i64 m.n, .slice (some P) m.n c, .slice (some Q) m.n d, .int .u64 a, .int .u64 v, .int .u64 b, .int .u64 x]] w fun e w' => e = .returned (.bool true) ∧ Up w w' := by
  have hfew : few m.n m.n m.n = true := by unfold few rt; simp; have := hm.1.1; omega
  have hf := fun w => few_any m.n (some P) (some Q) m.n m.n c d w
  rw [hfew] at hf
  have hf := Lib.hid hf
  have hok := Lib.hid hm.1
  have HM := Lib.hid hm
  clear hfew hm
  have h1 := Lib.hid (fun (W : World) (hS : Sits W m P Q c d) => show Calls Try.prog 15 #[.agg #[.int .i64 m.n, .slice (some P) m.n c, .slice (some Q) m.n d], .int .u64 a, .int .u64 v] W (Gives1 W (m.st a v) (.int .i64 0)) from by
    have h := store_any (m) a v P Q c d W hS ha
    rw [show m.lde a = 0 from if_pos ta] at h
    exact h)
  have h2 := Lib.hid (fun (W : World) (P Q : Addr) (c d : Nat) (hS : Sits W (m.st a v) P Q c d) => show Calls Try.prog 15 #[.agg #[.int .i64 (m.st a v).n, .slice (some P) (m.st a v).n c, .slice (some Q) (m.st a v).n d], .int .u64 b, .int .u64 x] W (Gives1 W ((m.st a v).st b x) (.int .i64 2)) from by
    have h := store_any (m.st a v) b x P Q c d W hS hb
    rw [lde_n (Me.st_n m a v), show m.lde b = 2 from if_neg tb] at h
    exact h)
  have h3 := Lib.hid (fun (W : World) (hS : Sits W m P Q c d) => show Calls Try.prog 15 #[.agg #[.int .i64 m.n, .slice (some P) m.n c, .slice (some Q) m.n d], .int .u64 b, .int .u64 x] W (Gives1 W (m.st b x) (.int .i64 2)) from by
    have h := store_any (m) b x P Q c d W hS hb
    rw [show m.lde b = 2 from if_neg tb] at h
    exact h)
  have h4 := Lib.hid (fun (W : World) (P Q : Addr) (c d : Nat) (hS : Sits W (m.st b x) P Q c d) => show Calls Try.prog 15 #[.agg #[.int .i64 (m.st b x).n, .slice (some P) (m.st b x).n c, .slice (some Q) (m.st b x).n d], .int .u64 a, .int .u64 v] W (Gives1 W ((m.st a v).st b x) (.int .i64 0)) from by
    have h := store_any (m.st b x) a v P Q c d W hS ha
    rw [← st_comm hne, lde_n (Me.st_n m b x), show m.lde a = 0 from if_pos ta] at h
    exact h)
  have h5 := Lib.hid (fun (W : World) => show Calls Try.prog 30 #[.agg #[.int .i64 m.n, .slice (some P) m.n c, .slice (some Q) m.n d], .int .u64 a] W fun e w' => e = .returned (.bool true) ∧ Up W w' from by
    have h := rthere_any m a P Q c d W ha
    rw [decide_eq_true ta] at h
    exact h)
  have h6 := Lib.hid (fun (W : World) => show Calls Try.prog 30 #[.agg #[.int .i64 m.n, .slice (some P) m.n c, .slice (some Q) m.n d], .int .u64 b] W fun e w' => e = .returned (.bool false) ∧ Up W w' from by
    have h := rthere_any m b P Q c d W hb
    rw [decide_eq_false tb] at h
    exact h)
  have h7 := Lib.hid (fun (P Q P' Q' : Addr) (c d c' d' : Nat) (W : World) => rsame_self ((m.st a v).st b x) P Q P' Q' c d c' d' W)
  have hab : (a == b) = false := beq_eq_false_iff_ne.mpr hne
  generalize (m.st a v).st b x = V at h2 h4 h7
  generalize m.st a v = X at h1 h2
  generalize m.st b x = Y at h3 h4
  clear ta tb hne
  go_enter Try.func10, Try.ntmps10
  go_wp2_with (fail)
  refine (shown_any _).mono ?_
  rintro e w1 ⟨rfl, h1⟩
  have D1 := (Blk.new _ 25 _).up h1
  simp at D1
  have U1 : Up w w1 := (((Up.refl w).alloc _).alloc _).trans h1
  clear h1
  have D1c := D1.cell
  have D1l := D1.lt
  have D1f := D1.frozen
  go_wp2_with (fail)
  refine (hf.out _).mono ?_
  rintro e w2 ⟨rfl, h2⟩
  have D2 := D1.up h2
  have U2 : Up w w2 := U1.trans h2
  clear h2 D1 D1c D1f U1
  have D2c := D2.cell
  have D2l := D2.lt
  have D2f := D2.frozen
  go_wp2_with (fail)
  refine (h1.out _ (HM.out.up U2)).mono ?_
  rintro e w3 ⟨PX, QX, cX, dX, rfl, sX3, h3⟩
  have D3 := D2.up h3
  have U3 : Up w w3 := U2.trans h3
  clear h3 D2 D2c D2f U2
  have D3c := D3.cell
  have D3l := D3.lt
  have D3f := D3.frozen
  go_wp2_with (fail)
  refine (h2.out _ _ _ _ _ (sX3.up ((Up.refl _).alloc _))).mono ?_
  rintro e w4 ⟨PV, QV, cV, dV, rfl, sV4, h4⟩
  have D4 := (D3.alloc _).up h4
  have X4 := (Blk.new w3 25 _).up h4
  have nXD4 := Nat.ne_of_gt D3l
  have nDX4 := Nat.ne_of_lt D3l
  have U4 : Up w w4 := (U3.alloc _).trans h4
  have sX4 := (sX3.up ((Up.refl _).alloc _)).up h4
  clear h4 D3 D3c D3f U3 sX3
  have D4c := D4.cell
  have D4l := D4.lt
  have D4f := D4.frozen
  have X4c := X4.cell
  have X4l := X4.lt
  have X4f := X4.frozen
  go_wp2_with (fail)
  refine (h3.out _ (HM.out.up (U4.set3 (by omega) _ _ _))).mono ?_
  rintro e w5 ⟨PY, QY, cY, dY, rfl, sY5, h5⟩
  have D5 := (D4.far3 (by omega) _ _ _).up h5
  have X5 := (X4.set3 _ _ _).up h5
  have U5 : Up w w5 := (U4.set3 (by omega) _ _ _).trans h5
  have sX5 := (sX4.far3 X4 _ _ _).up h5
  have sV5 := (sV4.far3 X4 _ _ _).up h5
  clear h5 D4 D4c D4f X4 X4c X4f U4 sX4 sV4
  have D5c := D5.cell
  have D5l := D5.lt
  have D5f := D5.frozen
  have X5c := X5.cell
  have X5l := X5.lt
  have X5f := X5.frozen
  go_wp2_with (fail)
  refine (h4.out _ _ _ _ _ (sY5.up ((Up.refl _).alloc _))).mono ?_
  rintro e w6 ⟨PZ, QZ, cZ, dZ, rfl, sZ6, h6⟩
  have D6 := (D5.alloc _).up h6
  have X6 := (X5.alloc _).up h6
  have Y6 := (Blk.new w5 25 _).up h6
  have nYD6 := Nat.ne_of_gt D5l
  have nDY6 := Nat.ne_of_lt D5l
  have nYX6 := Nat.ne_of_gt X5l
  have nXY6 := Nat.ne_of_lt X5l
  have U6 : Up w w6 := (U5.alloc _).trans h6
  have sX6 := (sX5.up ((Up.refl _).alloc _)).up h6
  have sV6 := (sV5.up ((Up.refl _).alloc _)).up h6
  have sY6 := (sY5.up ((Up.refl _).alloc _)).up h6
  clear h6 D5 D5c D5f X5 X5c X5f U5 sX5 sV5 sY5
  have D6c := D6.cell
  have D6l := D6.lt
  have D6f := D6.frozen
  have X6c := X6.cell
  have X6l := X6.lt
  have X6f := X6.frozen
  have Y6c := Y6.cell
  have Y6l := Y6.lt
  have Y6f := Y6.frozen
  go_wp2_with (fail)
  refine (h5.out _).mono ?_
  rintro e w7 ⟨rfl, h7⟩
  have D7 := (D6.far3 (by omega) _ _ _).up h7
  have X7 := (X6.far3 (by omega) _ _ _).up h7
  have Y7 := (Y6.set3 _ _ _).up h7
  have U7 : Up w w7 := (U6.set3 (by omega) _ _ _).trans h7
  have sX7 := (sX6.far3 Y6 _ _ _).up h7
  have sV7 := (sV6.far3 Y6 _ _ _).up h7
  have sY7 := (sY6.far3 Y6 _ _ _).up h7
  have sZ7 := (sZ6.far3 Y6 _ _ _).up h7
  clear h7 D6 D6c D6f X6 X6c X6f Y6 Y6c Y6f U6 sX6 sV6 sY6 sZ6
  have D7c := D7.cell
  have D7l := D7.lt
  have D7f := D7.frozen
  have X7c := X7.cell
  have X7l := X7.lt
  have X7f := X7.frozen
  have Y7c := Y7.cell
  have Y7l := Y7.lt
  have Y7f := Y7.frozen
  go_wp2_with (fail)
  refine (h6.out _).mono ?_
  rintro e w8 ⟨rfl, h8⟩
  have D8 := D7.up h8
  have X8 := X7.up h8
  have Y8 := Y7.up h8
  have U8 : Up w w8 := U7.trans h8
  have sX8 := sX7.up h8
  have sV8 := sV7.up h8
  have sY8 := sY7.up h8
  have sZ8 := sZ7.up h8
  clear h8 D7 D7c D7f X7 X7c X7f Y7 Y7c Y7f U7 sX7 sV7 sY7 sZ7
  have D8c := D8.cell
  have D8l := D8.lt
  have D8f := D8.frozen
  have X8c := X8.cell
  have X8l := X8.lt
  have X8f := X8.frozen
  have Y8c := Y8.cell
  have Y8l := Y8.lt
  have Y8f := Y8.frozen
  go_wp2_with (fail)
  refine (h7.out _ _ _ _ _ _ _ _ _ sV8 sZ8).mono ?_
  rintro e w9 ⟨rfl, h9⟩
  have D9 := D8.up h9
  have X9 := X8.up h9
  have Y9 := Y8.up h9
  have U9 : Up w w9 := U8.trans h9
  have sX9 := sX8.up h9
  have sV9 := sV8.up h9
  have sY9 := sY8.up h9
  have sZ9 := sZ8.up h9
  clear h9 D8 D8c D8f X8 X8c X8f Y8 Y8c Y8f U8 sX8 sV8 sY8 sZ8
  have D9c := D9.cell
  have D9l := D9.lt
  have D9f := D9.frozen
  have X9c := X9.cell
  have X9l := X9.lt
  have X9f := X9.frozen
  have Y9c := Y9.cell
  have Y9l := Y9.lt
  have Y9f := Y9.frozen
  go_wp2
  go_ret
  exact ⟨rfl, U9⟩

set_option maxHeartbeats 4000000 in
theorem walk_01 (m : Me) (P Q : Addr) (c d : Nat) (a : Int) (v : Int) (b : Int) (x : Int) (w : World) (hm : Sits w m P Q c d) (hn : m.n ≤ 200) (ha : U64 a) (hv : U64 v) (hb : U64 b) (hx : U64 x) (hne : a ≠ b) (ta : ¬ m.there a) (tb : m.there b) :
    Calls Try.prog 10 #[.agg #[.int .i64 m.n, .slice (some P) m.n c, .slice (some Q) m.n d, .int .u64 a, .int .u64 v, .int .u64 b, .int .u64 x]] w fun e w' => e = .returned (.bool true) ∧ Up w w' := by
  have hfew : few m.n m.n m.n = true := by unfold few rt; simp; have := hm.1.1; omega
  have hf := fun w => few_any m.n (some P) (some Q) m.n m.n c d w
  rw [hfew] at hf
  have hf := Lib.hid hf
  have hok := Lib.hid hm.1
  have HM := Lib.hid hm
  clear hfew hm
  have h1 := Lib.hid (fun (W : World) (hS : Sits W m P Q c d) => show Calls Try.prog 15 #[.agg #[.int .i64 m.n, .slice (some P) m.n c, .slice (some Q) m.n d], .int .u64 a, .int .u64 v] W (Gives1 W (m.st a v) (.int .i64 2)) from by
    have h := store_any (m) a v P Q c d W hS ha
    rw [show m.lde a = 2 from if_neg ta] at h
    exact h)
  have h2 := Lib.hid (fun (W : World) (P Q : Addr) (c d : Nat) (hS : Sits W (m.st a v) P Q c d) => show Calls Try.prog 15 #[.agg #[.int .i64 (m.st a v).n, .slice (some P) (m.st a v).n c, .slice (some Q) (m.st a v).n d], .int .u64 b, .int .u64 x] W (Gives1 W ((m.st a v).st b x) (.int .i64 0)) from by
    have h := store_any (m.st a v) b x P Q c d W hS hb
    rw [lde_n (Me.st_n m a v), show m.lde b = 0 from if_pos tb] at h
    exact h)
  have h3 := Lib.hid (fun (W : World) (hS : Sits W m P Q c d) => show Calls Try.prog 15 #[.agg #[.int .i64 m.n, .slice (some P) m.n c, .slice (some Q) m.n d], .int .u64 b, .int .u64 x] W (Gives1 W (m.st b x) (.int .i64 0)) from by
    have h := store_any (m) b x P Q c d W hS hb
    rw [show m.lde b = 0 from if_pos tb] at h
    exact h)
  have h4 := Lib.hid (fun (W : World) (P Q : Addr) (c d : Nat) (hS : Sits W (m.st b x) P Q c d) => show Calls Try.prog 15 #[.agg #[.int .i64 (m.st b x).n, .slice (some P) (m.st b x).n c, .slice (some Q) (m.st b x).n d], .int .u64 a, .int .u64 v] W (Gives1 W ((m.st a v).st b x) (.int .i64 2)) from by
    have h := store_any (m.st b x) a v P Q c d W hS ha
    rw [← st_comm hne, lde_n (Me.st_n m b x), show m.lde a = 2 from if_neg ta] at h
    exact h)
  have h5 := Lib.hid (fun (W : World) => show Calls Try.prog 30 #[.agg #[.int .i64 m.n, .slice (some P) m.n c, .slice (some Q) m.n d], .int .u64 a] W fun e w' => e = .returned (.bool false) ∧ Up W w' from by
    have h := rthere_any m a P Q c d W ha
    rw [decide_eq_false ta] at h
    exact h)
  have h6 := Lib.hid (fun (W : World) => show Calls Try.prog 30 #[.agg #[.int .i64 m.n, .slice (some P) m.n c, .slice (some Q) m.n d], .int .u64 b] W fun e w' => e = .returned (.bool true) ∧ Up W w' from by
    have h := rthere_any m b P Q c d W hb
    rw [decide_eq_true tb] at h
    exact h)
  have h7 := Lib.hid (fun (P Q P' Q' : Addr) (c d c' d' : Nat) (W : World) => rsame_self ((m.st a v).st b x) P Q P' Q' c d c' d' W)
  have hab : (a == b) = false := beq_eq_false_iff_ne.mpr hne
  generalize (m.st a v).st b x = V at h2 h4 h7
  generalize m.st a v = X at h1 h2
  generalize m.st b x = Y at h3 h4
  clear ta tb hne
  go_enter Try.func10, Try.ntmps10
  go_wp2_with (fail)
  refine (shown_any _).mono ?_
  rintro e w1 ⟨rfl, h1⟩
  have D1 := (Blk.new _ 25 _).up h1
  simp at D1
  have U1 : Up w w1 := (((Up.refl w).alloc _).alloc _).trans h1
  clear h1
  have D1c := D1.cell
  have D1l := D1.lt
  have D1f := D1.frozen
  go_wp2_with (fail)
  refine (hf.out _).mono ?_
  rintro e w2 ⟨rfl, h2⟩
  have D2 := D1.up h2
  have U2 : Up w w2 := U1.trans h2
  clear h2 D1 D1c D1f U1
  have D2c := D2.cell
  have D2l := D2.lt
  have D2f := D2.frozen
  go_wp2_with (fail)
  refine (h1.out _ (HM.out.up U2)).mono ?_
  rintro e w3 ⟨PX, QX, cX, dX, rfl, sX3, h3⟩
  have D3 := D2.up h3
  have U3 : Up w w3 := U2.trans h3
  clear h3 D2 D2c D2f U2
  have D3c := D3.cell
  have D3l := D3.lt
  have D3f := D3.frozen
  go_wp2_with (fail)
  refine (h2.out _ _ _ _ _ (sX3.up ((Up.refl _).alloc _))).mono ?_
  rintro e w4 ⟨PV, QV, cV, dV, rfl, sV4, h4⟩
  have D4 := (D3.alloc _).up h4
  have X4 := (Blk.new w3 25 _).up h4
  have nXD4 := Nat.ne_of_gt D3l
  have nDX4 := Nat.ne_of_lt D3l
  have U4 : Up w w4 := (U3.alloc _).trans h4
  have sX4 := (sX3.up ((Up.refl _).alloc _)).up h4
  clear h4 D3 D3c D3f U3 sX3
  have D4c := D4.cell
  have D4l := D4.lt
  have D4f := D4.frozen
  have X4c := X4.cell
  have X4l := X4.lt
  have X4f := X4.frozen
  go_wp2_with (fail)
  refine (h3.out _ (HM.out.up (U4.set3 (by omega) _ _ _))).mono ?_
  rintro e w5 ⟨PY, QY, cY, dY, rfl, sY5, h5⟩
  have D5 := (D4.far3 (by omega) _ _ _).up h5
  have X5 := (X4.set3 _ _ _).up h5
  have U5 : Up w w5 := (U4.set3 (by omega) _ _ _).trans h5
  have sX5 := (sX4.far3 X4 _ _ _).up h5
  have sV5 := (sV4.far3 X4 _ _ _).up h5
  clear h5 D4 D4c D4f X4 X4c X4f U4 sX4 sV4
  have D5c := D5.cell
  have D5l := D5.lt
  have D5f := D5.frozen
  have X5c := X5.cell
  have X5l := X5.lt
  have X5f := X5.frozen
  go_wp2_with (fail)
  refine (h4.out _ _ _ _ _ (sY5.up ((Up.refl _).alloc _))).mono ?_
  rintro e w6 ⟨PZ, QZ, cZ, dZ, rfl, sZ6, h6⟩
  have D6 := (D5.alloc _).up h6
  have X6 := (X5.alloc _).up h6
  have Y6 := (Blk.new w5 25 _).up h6
  have nYD6 := Nat.ne_of_gt D5l
  have nDY6 := Nat.ne_of_lt D5l
  have nYX6 := Nat.ne_of_gt X5l
  have nXY6 := Nat.ne_of_lt X5l
  have U6 : Up w w6 := (U5.alloc _).trans h6
  have sX6 := (sX5.up ((Up.refl _).alloc _)).up h6
  have sV6 := (sV5.up ((Up.refl _).alloc _)).up h6
  have sY6 := (sY5.up ((Up.refl _).alloc _)).up h6
  clear h6 D5 D5c D5f X5 X5c X5f U5 sX5 sV5 sY5
  have D6c := D6.cell
  have D6l := D6.lt
  have D6f := D6.frozen
  have X6c := X6.cell
  have X6l := X6.lt
  have X6f := X6.frozen
  have Y6c := Y6.cell
  have Y6l := Y6.lt
  have Y6f := Y6.frozen
  go_wp2_with (fail)
  refine (h5.out _).mono ?_
  rintro e w7 ⟨rfl, h7⟩
  have D7 := (D6.far3 (by omega) _ _ _).up h7
  have X7 := (X6.far3 (by omega) _ _ _).up h7
  have Y7 := (Y6.set3 _ _ _).up h7
  have U7 : Up w w7 := (U6.set3 (by omega) _ _ _).trans h7
  have sX7 := (sX6.far3 Y6 _ _ _).up h7
  have sV7 := (sV6.far3 Y6 _ _ _).up h7
  have sY7 := (sY6.far3 Y6 _ _ _).up h7
  have sZ7 := (sZ6.far3 Y6 _ _ _).up h7
  clear h7 D6 D6c D6f X6 X6c X6f Y6 Y6c Y6f U6 sX6 sV6 sY6 sZ6
  have D7c := D7.cell
  have D7l := D7.lt
  have D7f := D7.frozen
  have X7c := X7.cell
  have X7l := X7.lt
  have X7f := X7.frozen
  have Y7c := Y7.cell
  have Y7l := Y7.lt
  have Y7f := Y7.frozen
  go_wp2_with (fail)
  refine (h6.out _).mono ?_
  rintro e w8 ⟨rfl, h8⟩
  have D8 := D7.up h8
  have X8 := X7.up h8
  have Y8 := Y7.up h8
  have U8 : Up w w8 := U7.trans h8
  have sX8 := sX7.up h8
  have sV8 := sV7.up h8
  have sY8 := sY7.up h8
  have sZ8 := sZ7.up h8
  clear h8 D7 D7c D7f X7 X7c X7f Y7 Y7c Y7f U7 sX7 sV7 sY7 sZ7
  have D8c := D8.cell
  have D8l := D8.lt
  have D8f := D8.frozen
  have X8c := X8.cell
  have X8l := X8.lt
  have X8f := X8.frozen
  have Y8c := Y8.cell
  have Y8l := Y8.lt
  have Y8f := Y8.frozen
  go_wp2_with (fail)
  refine (h7.out _ _ _ _ _ _ _ _ _ sV8 sZ8).mono ?_
  rintro e w9 ⟨rfl, h9⟩
  have D9 := D8.up h9
  have X9 := X8.up h9
  have Y9 := Y8.up h9
  have U9 : Up w w9 := U8.trans h9
  have sX9 := sX8.up h9
  have sV9 := sV8.up h9
  have sY9 := sY8.up h9
  have sZ9 := sZ8.up h9
  clear h9 D8 D8c D8f X8 X8c X8f Y8 Y8c Y8f U8 sX8 sV8 sY8 sZ8
  have D9c := D9.cell
  have D9l := D9.lt
  have D9f := D9.frozen
  have X9c := X9.cell
  have X9l := X9.lt
  have X9f := X9.frozen
  have Y9c := Y9.cell
  have Y9l := Y9.lt
  have Y9f := Y9.frozen
  go_wp2
  go_ret
  exact ⟨rfl, U9⟩

set_option maxHeartbeats 4000000 in
theorem walk_00 (m : Me) (P Q : Addr) (c d : Nat) (a : Int) (v : Int) (b : Int) (x : Int) (w : World) (hm : Sits w m P Q c d) (hn : m.n ≤ 200) (ha : U64 a) (hv : U64 v) (hb : U64 b) (hx : U64 x) (hne : a ≠ b) (ta : ¬ m.there a) (tb : ¬ m.there b) :
    Calls Try.prog 10 #[.agg #[.int .i64 m.n, .slice (some P) m.n c, .slice (some Q) m.n d, .int .u64 a, .int .u64 v, .int .u64 b, .int .u64 x]] w fun e w' => e = .returned (.bool true) ∧ Up w w' := by
  have hfew : few m.n m.n m.n = true := by unfold few rt; simp; have := hm.1.1; omega
  have hf := fun w => few_any m.n (some P) (some Q) m.n m.n c d w
  rw [hfew] at hf
  have hf := Lib.hid hf
  have hok := Lib.hid hm.1
  have HM := Lib.hid hm
  clear hfew hm
  have h1 := Lib.hid (fun (W : World) (hS : Sits W m P Q c d) => show Calls Try.prog 15 #[.agg #[.int .i64 m.n, .slice (some P) m.n c, .slice (some Q) m.n d], .int .u64 a, .int .u64 v] W (Gives1 W (m.st a v) (.int .i64 2)) from by
    have h := store_any (m) a v P Q c d W hS ha
    rw [show m.lde a = 2 from if_neg ta] at h
    exact h)
  have h2 := Lib.hid (fun (W : World) (P Q : Addr) (c d : Nat) (hS : Sits W (m.st a v) P Q c d) => show Calls Try.prog 15 #[.agg #[.int .i64 (m.st a v).n, .slice (some P) (m.st a v).n c, .slice (some Q) (m.st a v).n d], .int .u64 b, .int .u64 x] W (Gives1 W ((m.st a v).st b x) (.int .i64 2)) from by
    have h := store_any (m.st a v) b x P Q c d W hS hb
    rw [lde_n (Me.st_n m a v), show m.lde b = 2 from if_neg tb] at h
    exact h)
  have h3 := Lib.hid (fun (W : World) (hS : Sits W m P Q c d) => show Calls Try.prog 15 #[.agg #[.int .i64 m.n, .slice (some P) m.n c, .slice (some Q) m.n d], .int .u64 b, .int .u64 x] W (Gives1 W (m.st b x) (.int .i64 2)) from by
    have h := store_any (m) b x P Q c d W hS hb
    rw [show m.lde b = 2 from if_neg tb] at h
    exact h)
  have h4 := Lib.hid (fun (W : World) (P Q : Addr) (c d : Nat) (hS : Sits W (m.st b x) P Q c d) => show Calls Try.prog 15 #[.agg #[.int .i64 (m.st b x).n, .slice (some P) (m.st b x).n c, .slice (some Q) (m.st b x).n d], .int .u64 a, .int .u64 v] W (Gives1 W ((m.st a v).st b x) (.int .i64 2)) from by
    have h := store_any (m.st b x) a v P Q c d W hS ha
    rw [← st_comm hne, lde_n (Me.st_n m b x), show m.lde a = 2 from if_neg ta] at h
    exact h)
  have h5 := Lib.hid (fun (W : World) => show Calls Try.prog 30 #[.agg #[.int .i64 m.n, .slice (some P) m.n c, .slice (some Q) m.n d], .int .u64 a] W fun e w' => e = .returned (.bool false) ∧ Up W w' from by
    have h := rthere_any m a P Q c d W ha
    rw [decide_eq_false ta] at h
    exact h)
  have h6 := Lib.hid (fun (W : World) => show Calls Try.prog 30 #[.agg #[.int .i64 m.n, .slice (some P) m.n c, .slice (some Q) m.n d], .int .u64 b] W fun e w' => e = .returned (.bool false) ∧ Up W w' from by
    have h := rthere_any m b P Q c d W hb
    rw [decide_eq_false tb] at h
    exact h)
  have h7 := Lib.hid (fun (P Q P' Q' : Addr) (c d c' d' : Nat) (W : World) => rsame_self ((m.st a v).st b x) P Q P' Q' c d c' d' W)
  have hab : (a == b) = false := beq_eq_false_iff_ne.mpr hne
  generalize (m.st a v).st b x = V at h2 h4 h7
  generalize m.st a v = X at h1 h2
  generalize m.st b x = Y at h3 h4
  clear ta tb hne
  go_enter Try.func10, Try.ntmps10
  go_wp2_with (fail)
  refine (shown_any _).mono ?_
  rintro e w1 ⟨rfl, h1⟩
  have D1 := (Blk.new _ 25 _).up h1
  simp at D1
  have U1 : Up w w1 := (((Up.refl w).alloc _).alloc _).trans h1
  clear h1
  have D1c := D1.cell
  have D1l := D1.lt
  have D1f := D1.frozen
  go_wp2_with (fail)
  refine (hf.out _).mono ?_
  rintro e w2 ⟨rfl, h2⟩
  have D2 := D1.up h2
  have U2 : Up w w2 := U1.trans h2
  clear h2 D1 D1c D1f U1
  have D2c := D2.cell
  have D2l := D2.lt
  have D2f := D2.frozen
  go_wp2_with (fail)
  refine (h1.out _ (HM.out.up U2)).mono ?_
  rintro e w3 ⟨PX, QX, cX, dX, rfl, sX3, h3⟩
  have D3 := D2.up h3
  have U3 : Up w w3 := U2.trans h3
  clear h3 D2 D2c D2f U2
  have D3c := D3.cell
  have D3l := D3.lt
  have D3f := D3.frozen
  go_wp2_with (fail)
  refine (h2.out _ _ _ _ _ (sX3.up ((Up.refl _).alloc _))).mono ?_
  rintro e w4 ⟨PV, QV, cV, dV, rfl, sV4, h4⟩
  have D4 := (D3.alloc _).up h4
  have X4 := (Blk.new w3 25 _).up h4
  have nXD4 := Nat.ne_of_gt D3l
  have nDX4 := Nat.ne_of_lt D3l
  have U4 : Up w w4 := (U3.alloc _).trans h4
  have sX4 := (sX3.up ((Up.refl _).alloc _)).up h4
  clear h4 D3 D3c D3f U3 sX3
  have D4c := D4.cell
  have D4l := D4.lt
  have D4f := D4.frozen
  have X4c := X4.cell
  have X4l := X4.lt
  have X4f := X4.frozen
  go_wp2_with (fail)
  refine (h3.out _ (HM.out.up (U4.set3 (by omega) _ _ _))).mono ?_
  rintro e w5 ⟨PY, QY, cY, dY, rfl, sY5, h5⟩
  have D5 := (D4.far3 (by omega) _ _ _).up h5
  have X5 := (X4.set3 _ _ _).up h5
  have U5 : Up w w5 := (U4.set3 (by omega) _ _ _).trans h5
  have sX5 := (sX4.far3 X4 _ _ _).up h5
  have sV5 := (sV4.far3 X4 _ _ _).up h5
  clear h5 D4 D4c D4f X4 X4c X4f U4 sX4 sV4
  have D5c := D5.cell
  have D5l := D5.lt
  have D5f := D5.frozen
  have X5c := X5.cell
  have X5l := X5.lt
  have X5f := X5.frozen
  go_wp2_with (fail)
  refine (h4.out _ _ _ _ _ (sY5.up ((Up.refl _).alloc _))).mono ?_
  rintro e w6 ⟨PZ, QZ, cZ, dZ, rfl, sZ6, h6⟩
  have D6 := (D5.alloc _).up h6
  have X6 := (X5.alloc _).up h6
  have Y6 := (Blk.new w5 25 _).up h6
  have nYD6 := Nat.ne_of_gt D5l
  have nDY6 := Nat.ne_of_lt D5l
  have nYX6 := Nat.ne_of_gt X5l
  have nXY6 := Nat.ne_of_lt X5l
  have U6 : Up w w6 := (U5.alloc _).trans h6
  have sX6 := (sX5.up ((Up.refl _).alloc _)).up h6
  have sV6 := (sV5.up ((Up.refl _).alloc _)).up h6
  have sY6 := (sY5.up ((Up.refl _).alloc _)).up h6
  clear h6 D5 D5c D5f X5 X5c X5f U5 sX5 sV5 sY5
  have D6c := D6.cell
  have D6l := D6.lt
  have D6f := D6.frozen
  have X6c := X6.cell
  have X6l := X6.lt
  have X6f := X6.frozen
  have Y6c := Y6.cell
  have Y6l := Y6.lt
  have Y6f := Y6.frozen
  go_wp2_with (fail)
  refine (h5.out _).mono ?_
  rintro e w7 ⟨rfl, h7⟩
  have D7 := (D6.far3 (by omega) _ _ _).up h7
  have X7 := (X6.far3 (by omega) _ _ _).up h7
  have Y7 := (Y6.set3 _ _ _).up h7
  have U7 : Up w w7 := (U6.set3 (by omega) _ _ _).trans h7
  have sX7 := (sX6.far3 Y6 _ _ _).up h7
  have sV7 := (sV6.far3 Y6 _ _ _).up h7
  have sY7 := (sY6.far3 Y6 _ _ _).up h7
  have sZ7 := (sZ6.far3 Y6 _ _ _).up h7
  clear h7 D6 D6c D6f X6 X6c X6f Y6 Y6c Y6f U6 sX6 sV6 sY6 sZ6
  have D7c := D7.cell
  have D7l := D7.lt
  have D7f := D7.frozen
  have X7c := X7.cell
  have X7l := X7.lt
  have X7f := X7.frozen
  have Y7c := Y7.cell
  have Y7l := Y7.lt
  have Y7f := Y7.frozen
  go_wp2_with (fail)
  refine (h6.out _).mono ?_
  rintro e w8 ⟨rfl, h8⟩
  have D8 := D7.up h8
  have X8 := X7.up h8
  have Y8 := Y7.up h8
  have U8 : Up w w8 := U7.trans h8
  have sX8 := sX7.up h8
  have sV8 := sV7.up h8
  have sY8 := sY7.up h8
  have sZ8 := sZ7.up h8
  clear h8 D7 D7c D7f X7 X7c X7f Y7 Y7c Y7f U7 sX7 sV7 sY7 sZ7
  have D8c := D8.cell
  have D8l := D8.lt
  have D8f := D8.frozen
  have X8c := X8.cell
  have X8l := X8.lt
  have X8f := X8.frozen
  have Y8c := Y8.cell
  have Y8l := Y8.lt
  have Y8f := Y8.frozen
  go_wp2_with (fail)
  refine (h7.out _ _ _ _ _ _ _ _ _ sV8 sZ8).mono ?_
  rintro e w9 ⟨rfl, h9⟩
  have D9 := D8.up h9
  have X9 := X8.up h9
  have Y9 := Y8.up h9
  have U9 : Up w w9 := U8.trans h9
  have sX9 := sX8.up h9
  have sV9 := sV8.up h9
  have sY9 := sY8.up h9
  have sZ9 := sZ8.up h9
  clear h9 D8 D8c D8f X8 X8c X8f Y8 Y8c Y8f U8 sX8 sV8 sY8 sZ8
  have D9c := D9.cell
  have D9l := D9.lt
  have D9f := D9.frozen
  have X9c := X9.cell
  have X9l := X9.lt
  have X9f := X9.frozen
  have Y9c := Y9.cell
  have Y9l := Y9.lt
  have Y9f := Y9.frozen
  go_wp2
  go_ret
  exact ⟨rfl, U9⟩

theorem walk (NM : Int) (AM0 AM1 : Option Addr) (nM0 nM1 cM0 cM1 : Nat) (xsM ysM : List Int) (a : Int) (v : Int) (b : Int) (x : Int) (w : World) (hxM : SlOk w AM0 nM0 cM0 xsM) (hyM : SlOk w AM1 nM1 cM1 ysM) (ha : U64 a) (hv : U64 v) (hb : U64 b) (hx : U64 x) :
    Calls Try.prog 10 #[.agg #[.int .i64 NM, .slice AM0 nM0 cM0, .slice AM1 nM1 cM1, .int .u64 a, .int .u64 v, .int .u64 b, .int .u64 x]] w fun e w' => e = .returned (.bool true) ∧ Up w w' := by
  cases hfew : few NM nM0 nM1
  · exact walk_no NM AM0 AM1 nM0 nM1 cM0 cM1 xsM ysM a v b x hfew w
  · obtain ⟨rfl, rfl, h16, h200⟩ := few_is hfew
    obtain ⟨P, Q, rfl, rfl, hm⟩ := sits_of hxM hyM h16 (by omega)
    by_cases hne : a = b
    · subst hne
      exact walk_same ⟨nM0, xsM, ysM⟩ P Q cM0 cM1 a v x w hm h200 ha hv hx
    · by_cases ta : (⟨nM0, xsM, ysM⟩ : Me).there a <;> by_cases tb : (⟨nM0, xsM, ysM⟩ : Me).there b
      · exact walk_11 ⟨nM0, xsM, ysM⟩ P Q cM0 cM1 a v b x w hm h200 ha hv hb hx hne ta tb
      · exact walk_10 ⟨nM0, xsM, ysM⟩ P Q cM0 cM1 a v b x w hm h200 ha hv hb hx hne ta tb
      · exact walk_01 ⟨nM0, xsM, ysM⟩ P Q cM0 cM1 a v b x w hm h200 ha hv hb hx hne ta tb
      · exact walk_00 ⟨nM0, xsM, ysM⟩ P Q cM0 cM1 a v b x w hm h200 ha hv hb hx hne ta tb
theorem cells : Try.prog.cellsOf 68 = 7 := by kernel_rfl
theorem opened {H : Type} {enc : TypeId × Value → H} {w : World} {r : Reach} {b0 : Nat} {vl_ : Value} {d : DataW H} {p : List MemPlace} (hvl_ : Value.okWide Try.prog w r b0 68 vl_) (h_ : DataW.Trod enc Try.prog w 0 (fun _ => true) true 68 vl_ d p) :
    ∃ (NM : Int) (AM0 AM1 : Option Addr) (nM0 nM1 cM0 cM1 : Nat) (xsM ysM : List Int) (a : Int) (v : Int) (b : Int) (x : Int), vl_ = .agg #[.int .i64 NM, .slice AM0 nM0 cM0, .slice AM1 nM1 cM1, .int .u64 a, .int .u64 v, .int .u64 b, .int .u64 x] ∧ I64 NM ∧ SlOk w AM0 nM0 cM0 xsM ∧ SlOk w AM1 nM1 cM1 ysM ∧ U64 a ∧ U64 v ∧ U64 b ∧ U64 x := by
  obtain ⟨⟨l⟩, rfl, hsz⟩ := okWide_struct Try.underlying68 hvl_
  match l, hsz.trans cells with
  | [z0_, z1_, z2_, z3_, z4_, z5_, z6_], _ =>
    obtain ⟨fuel, hf_⟩ := h_
    obtain ⟨ys_, n_, _, _, _, hlen_, hg_⟩ := DataW.trod_struct Try.underlying68 hf_
    have f0_ := hg_ 0 _ rfl
    have f1_ := hg_ 1 _ rfl
    have f2_ := hg_ 2 _ rfl
    have f3_ := hg_ 3 _ rfl
    have f4_ := hg_ 4 _ rfl
    match ys_, hlen_ with
    | [y0_, y1_, y2_, y3_, y4_], _ =>
      change DataW.trod enc Try.prog w 0 (fun _ => true) true n_ 25 (([z0_, z1_, z2_, z3_, z4_, z5_, z6_].drop 0).take (Try.prog.cellsOf 25)) = some y0_ at f0_
      rw [cells_mem] at f0_
      change DataW.trod enc Try.prog w 0 (fun _ => true) true n_ 26 (([z0_, z1_, z2_, z3_, z4_, z5_, z6_].drop 3).take (Try.prog.cellsOf 26)) = some y1_ at f1_
      rw [cells_u64] at f1_
      change DataW.trod enc Try.prog w 0 (fun _ => true) true n_ 26 (([z0_, z1_, z2_, z3_, z4_, z5_, z6_].drop 4).take (Try.prog.cellsOf 26)) = some y2_ at f2_
      rw [cells_u64] at f2_
      change DataW.trod enc Try.prog w 0 (fun _ => true) true n_ 26 (([z0_, z1_, z2_, z3_, z4_, z5_, z6_].drop 5).take (Try.prog.cellsOf 26)) = some y3_ at f3_
      rw [cells_u64] at f3_
      change DataW.trod enc Try.prog w 0 (fun _ => true) true n_ 26 (([z0_, z1_, z2_, z3_, z4_, z5_, z6_].drop 6).take (Try.prog.cellsOf 26)) = some y4_ at f4_
      rw [cells_u64] at f4_
      obtain ⟨NM, AM0, AM1, nM0, nM1, cM0, cM1, xsM, ysM, rfl, rfl, rfl, hNM, hxM, hyM⟩ := mem_open (v0 := z0_) (v1 := z1_) (v2 := z2_) f0_
      obtain ⟨a, rfl, ha⟩ := u64_open (v := z3_) f1_
      obtain ⟨v, rfl, hv⟩ := u64_open (v := z4_) f2_
      obtain ⟨b, rfl, hb⟩ := u64_open (v := z5_) f3_
      obtain ⟨x, rfl, hx⟩ := u64_open (v := z6_) f4_
      exact ⟨NM, AM0, AM1, nM0, nM1, cM0, cM1, xsM, ysM, a, v, b, x, rfl, hNM, hxM, hyM, ha, hv, hb, hx⟩

theorem own : ownKnob Try.prog.godebug = none := by kernel_rfl
set_option maxRecDepth 100000 in
theorem lifted (os : Os) (started : os.Started) (H : Type) (enc : TypeId × Value → H) :
    ReturnsInHanded {} Try.checked os 10 .any (Rows.arenaTwoSpec.pre6 enc Try.prog Try.f10 Rows.arenaTwoRow.domain false) (Rows.arenaTwoSpec.post enc Try.prog Try.f10 false true false false) := by
  refine returnsInHanded_of_change (C := Try.checked) own started (by kernel_rfl) Try.func10
    (ChangeSpec.witness6 (enc := enc) (C := Try.checked) false ⟨#[], #[.agg #[.int .i64 0, .slice none 0 0, .slice none 0 0, .int .u64 0, .int .u64 0, .int .u64 0, .int .u64 0]], []⟩ 8 (by kernel_rfl) (by kernel_rfl) (by kernel_rfl) (by kernel_rfl)) ?_
  intro W base args ds gs before hval0 hW hcnd _
  have hval : ∀ (j : Nat) t v, Try.f10.params[j]? = some t → args[j]? = some v → Value.okWide Try.prog W .any base t v := hval0
  have hW' := hW
  obtain ⟨p, q, hA0, hV, rfl, hfz, hnd⟩ := hW
  have hA : DataW.TrodAll enc Try.prog W 0 (fun _ => true) true Try.f10.params.toList args.toList ds p := hA0
  rw [Try.params10] at hA hval
  obtain ⟨v0, vs0, d0, ds0, p0, q0, hargs, rfl, rfl, h0, r0⟩ := trodAll_cons hA
  obtain ⟨rfl, rfl, rfl⟩ := trodAll_nil r0
  obtain rfl : args = #[v0] := by cases args; simp_all
  obtain ⟨rfl, rfl⟩ := trodVars_none hV
  have h0k := h0
  obtain ⟨NM, AM0, AM1, nM0, nM1, cM0, cM1, xsM, ysM, a, v, b, x, rfl, hNM, hxM, hyM, ha, hv, hb, hx⟩ := opened (hval 0 68 v0 rfl rfl) h0
  clear hA0 hval0
  simp only [List.append_nil] at hW'
  refine (walk NM AM0 AM1 nM0 nM1 cM0 cM1 xsM ysM a v b x W hxM hyM ha hv hb hx).mono fun e W' ⟨he, hg⟩ => ?_
  subst he
  exact ⟨_, rfl, post_below (pa := p0) (pv := []) hW' (fun _ _ _ => (trodAll_cons_mk (shut_bool Try.underlying4 _) trodAll_mk0))
    (fun sp hsp => by
      have t := trodAll_cons_mk (trod_keeps (sp := sp) (by kernel_rfl) (of_decide_eq_true (by kernel_rfl)) h0k hg (fun x hx => hW'.lt x hx) (fun x hx => hsp x hx)) trodAll_mk0
      rw [List.append_nil] at t
      exact t) (fun _ _ => rfl) (by simp)
    hg (ok_one (by kernel_rfl) rfl (okWide_bool_mk Try.underlying4 _))⟩

theorem over : Rows.arenaTwoRow.holds Try.pinned (OpenSpec.ofChange Rows.arenaTwoSpec) :=
  OpenClaim.holds_of_wide 10 Try.f10 rfl rfl rfl rfl rfl rfl rfl ⟨rfl, rfl, rfl, rfl, rfl⟩ rfl rfl rfl rfl rfl (by kernel_rfl) Try.func10 (by kernel_rfl)
    (of_decide_eq_true (by kernel_rfl)) (by unfold Func.isWrapper; first | (rw [if_pos (by decide +kernel)]; kernel_rfl) | (rw [if_neg (by decide +kernel)]; exact ⟨rfl, rfl⟩))
    (fun os started H enc _ => lifted os started H enc)

theorem proved : Rows.ArenaTwoSaid :=
  over
#print axioms proved
end Go.Proofs.Ytoneandmbnfcoaa.LArenaTwo
