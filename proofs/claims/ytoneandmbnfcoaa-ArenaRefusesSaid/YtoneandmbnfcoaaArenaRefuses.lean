/- The statement ArenaRefuses is proved for every input, from contracts of the functions that it calls; no condition is added. -/
import Derived.Test.YtoneandmbnfcoaaPur
namespace Go.Proofs.Ytoneandmbnfcoaa.LArenaRefuses
open Go.Joins Go.ChangeShapes Go.WideShapes Go.ChangeAt Go.RowKit Go.Deep
set_option linter.unusedVariables false
set_option linter.unusedSimpArgs false

set_option maxHeartbeats 2000000 in
theorem walk_no (NM : Int) (AM0 AM1 : Option Addr) (nM0 nM1 cM0 cM1 : Nat) (xsM ysM : List Int) (a : Int) (b : Int) (v : Int) (k : Int) (hfew : few NM nM0 nM1 = false) (w : World) :
    Calls Try.prog 9 #[.agg #[.int .i64 NM, .slice AM0 nM0 cM0, .slice AM1 nM1 cM1, .int .u64 a, .int .u64 b, .int .u64 v, .int .i64 k]] w fun e w' => e = .returned (.bool true) ∧ Up w w' := by
  have hf := fun w => few_any NM AM0 AM1 nM0 nM1 cM0 cM1 w
  rw [hfew] at hf
  have hf := Lib.hid hf
  clear hfew
  go_enter Try.func9, Try.ntmps9
  go_wp2_with (fail)
  refine (shown_any _).mono ?_
  rintro e w1 ⟨rfl, h1⟩
  have D1 := (Blk.new _ 25 _).up h1
  simp at D1
  have U1 : Up w w1 := (((Up.refl w).alloc _).alloc _).trans h1
  clear h1
  have D1c := D1.cell
  have D1l := D1.lt
  have D1f := D1.frozen
  go_wp2_with (fail)
  refine (hf.out _).mono ?_
  rintro e w2 ⟨rfl, h2⟩
  have D2 := D1.up h2
  have U2 : Up w w2 := U1.trans h2
  clear h2 D1 D1c D1f U1
  have D2c := D2.cell
  have D2l := D2.lt
  have D2f := D2.frozen
  go_wp2
  go_ret
  exact ⟨rfl, U2⟩

set_option maxHeartbeats 4000000 in
theorem walk_A1 (m : Me) (P Q : Addr) (c d : Nat) (a : Int) (b : Int) (v : Int) (k : Int) (w : World) (hm : Sits w m P Q c d) (hn : m.n ≤ 200) (ha : U64 a) (hb : U64 b) (hv : U64 v) (hk : I64 k) (ta : m.there a) (hl : m.ld a = v) (hmv : m.mve a b k = 0) :
    Calls Try.prog 9 #[.agg #[.int .i64 m.n, .slice (some P) m.n c, .slice (some Q) m.n d, .int .u64 a, .int .u64 b, .int .u64 v, .int .i64 k]] w fun e w' => e = .returned (.bool true) ∧ Up w w' := by
  have hfew : few m.n m.n m.n = true := by unfold few rt; simp; have := hm.1.1; omega
  have hf := fun w => few_any m.n (some P) (some Q) m.n m.n c d w
  rw [hfew] at hf
  have hf := Lib.hid hf
  have hok := Lib.hid hm.1
  have HM := Lib.hid hm
  clear hfew hm
  have h1 := Lib.hid (fun (W : World) (hS : Sits W m P Q c d) => show Calls Try.prog 15 #[.agg #[.int .i64 m.n, .slice (some P) m.n c, .slice (some Q) m.n d], .int .u64 a, .int .u64 v] W (Gives1 W (m.st a v) (.int .i64 0)) from by
    have h := store_any (m) a v P Q c d W hS ha
    rw [show m.lde a = 0 from if_pos ta] at h
    exact h)
  have h2 := Lib.hid (fun (W : World) (hS : Sits W m P Q c d) => show Calls Try.prog 17 #[.agg #[.int .i64 m.n, .slice (some P) m.n c, .slice (some Q) m.n d], .int .u64 a, .int .u64 v, .int .u64 b] W (Gives2 W (m.st a b) (.bool true) (.int .i64 0)) from by
    have h := swap_any (m) a v b P Q c d W hS ha
    rw [show m.sw a v b = m.st a b from if_pos ⟨ta, hl⟩, show m.swb a v = true from decide_eq_true ⟨ta, hl⟩, show m.lde a = 0 from if_pos ta] at h
    exact h)
  have h3 := Lib.hid (fun (W : World) (hS : Sits W m P Q c d) => show Calls Try.prog 19 #[.agg #[.int .i64 m.n, .slice (some P) m.n c, .slice (some Q) m.n d], .int .u64 a, .int .u64 b, .int .i64 k] W (Gives1 W (m.mv a b k) (.int .i64 0)) from by
    have h := move_any m a b k P Q c d W hS ha hb hk
    rw [hmv] at h
    exact h)
  have h7 := Lib.hid (fun (P Q P' Q' : Addr) (c d c' d' : Nat) (W : World) => rsame_self m P Q P' Q' c d c' d' W)
  generalize m.mv a b k = Z at h3
  generalize m.st a v = X at h1
  generalize m.st a b = Y at h2
  clear ta hl hmv
  go_enter Try.func9, Try.ntmps9
  go_wp2_with (fail)
  refine (shown_any _).mono ?_
  rintro e w1 ⟨rfl, h1⟩
  have D1 := (Blk.new _ 25 _).up h1
  simp at D1
  have U1 : Up w w1 := (((Up.refl w).alloc _).alloc _).trans h1
  clear h1
  have D1c := D1.cell
  have D1l := D1.lt
  have D1f := D1.frozen
  go_wp2_with (fail)
  refine (hf.out _).mono ?_
  rintro e w2 ⟨rfl, h2⟩
  have D2 := D1.up h2
  have U2 : Up w w2 := U1.trans h2
  clear h2 D1 D1c D1f U1
  have D2c := D2.cell
  have D2l := D2.lt
  have D2f := D2.frozen
  go_wp2_with (fail)
  refine (h1.out _ (HM.out.up U2)).mono ?_
  rintro e w3 ⟨PX, QX, cX, dX, rfl, sX3, h3⟩
  have D3 := D2.up h3
  have U3 : Up w w3 := U2.trans h3
  clear h3 D2 D2c D2f U2
  have D3c := D3.cell
  have D3l := D3.lt
  have D3f := D3.frozen
  go_wp2_with (fail)
  refine (h2.out _ (HM.out.up (U3.alloc _))).mono ?_
  rintro e w4 ⟨PY, QY, cY, dY, rfl, sY4, h4⟩
  have D4 := (D3.alloc _).up h4
  have X4 := (Blk.new w3 25 _).up h4
  have nXD4 := Nat.ne_of_gt D3l
  have nDX4 := Nat.ne_of_lt D3l
  have U4 : Up w w4 := (U3.alloc _).trans h4
  have sX4 := (sX3.up ((Up.refl _).alloc _)).up h4
  clear h4 D3 D3c D3f U3 sX3
  have D4c := D4.cell
  have D4l := D4.lt
  have D4f := D4.frozen
  have X4c := X4.cell
  have X4l := X4.lt
  have X4f := X4.frozen
  go_wp2_with (fail)
  refine (h3.out _ (HM.out.up (U4.alloc _))).mono ?_
  rintro e w5 ⟨PZ, QZ, cZ, dZ, rfl, sZ5, h5⟩
  have D5 := (D4.alloc _).up h5
  have X5 := (X4.alloc _).up h5
  have Y5 := (Blk.new w4 25 _).up h5
  have nYD5 := Nat.ne_of_gt D4l
  have nDY5 := Nat.ne_of_lt D4l
  have nYX5 := Nat.ne_of_gt X4l
  have nXY5 := Nat.ne_of_lt X4l
  have U5 : Up w w5 := (U4.alloc _).trans h5
  have sX5 := (sX4.up ((Up.refl _).alloc _)).up h5
  have sY5 := (sY4.up ((Up.refl _).alloc _)).up h5
  clear h5 D4 D4c D4f X4 X4c X4f U4 sX4 sY4
  have D5c := D5.cell
  have D5l := D5.lt
  have D5f := D5.frozen
  have X5c := X5.cell
  have X5l := X5.lt
  have X5f := X5.frozen
  have Y5c := Y5.cell
  have Y5l := Y5.lt
  have Y5f := Y5.frozen
  go_wp2_with (fail)
  refine (rright_me _ _ _ _ _ _ sX5.1).mono ?_
  rintro e w6 ⟨rfl, h6⟩
  have D6 := (D5.alloc _).up h6
  have X6 := (X5.alloc _).up h6
  have Y6 := (Y5.alloc _).up h6
  have Z6 := (Blk.new w5 25 _).up h6
  have nZD6 := Nat.ne_of_gt D5l
  have nDZ6 := Nat.ne_of_lt D5l
  have nZX6 := Nat.ne_of_gt X5l
  have nXZ6 := Nat.ne_of_lt X5l
  have nZY6 := Nat.ne_of_gt Y5l
  have nYZ6 := Nat.ne_of_lt Y5l
  have U6 : Up w w6 := (U5.alloc _).trans h6
  have sX6 := (sX5.up ((Up.refl _).alloc _)).up h6
  have sY6 := (sY5.up ((Up.refl _).alloc _)).up h6
  have sZ6 := (sZ5.up ((Up.refl _).alloc _)).up h6
  clear h6 D5 D5c D5f X5 X5c X5f Y5 Y5c Y5f U5 sX5 sY5 sZ5
  have D6c := D6.cell
  have D6l := D6.lt
  have D6f := D6.frozen
  have X6c := X6.cell
  have X6l := X6.lt
  have X6f := X6.frozen
  have Y6c := Y6.cell
  have Y6l := Y6.lt
  have Y6f := Y6.frozen
  have Z6c := Z6.cell
  have Z6l := Z6.lt
  have Z6f := Z6.frozen
  go_wp2_with (fail)
  refine (rright_me _ _ _ _ _ _ sY6.1).mono ?_
  rintro e w7 ⟨rfl, h7⟩
  have D7 := D6.up h7
  have X7 := X6.up h7
  have Y7 := Y6.up h7
  have Z7 := Z6.up h7
  have U7 : Up w w7 := U6.trans h7
  have sX7 := sX6.up h7
  have sY7 := sY6.up h7
  have sZ7 := sZ6.up h7
  clear h7 D6 D6c D6f X6 X6c X6f Y6 Y6c Y6f Z6 Z6c Z6f U6 sX6 sY6 sZ6
  have D7c := D7.cell
  have D7l := D7.lt
  have D7f := D7.frozen
  have X7c := X7.cell
  have X7l := X7.lt
  have X7f := X7.frozen
  have Y7c := Y7.cell
  have Y7l := Y7.lt
  have Y7f := Y7.frozen
  have Z7c := Z7.cell
  have Z7l := Z7.lt
  have Z7f := Z7.frozen
  go_wp2_with (fail)
  refine (rright_me _ _ _ _ _ _ sZ7.1).mono ?_
  rintro e w8 ⟨rfl, h8⟩
  have D8 := D7.up h8
  have X8 := X7.up h8
  have Y8 := Y7.up h8
  have Z8 := Z7.up h8
  have U8 : Up w w8 := U7.trans h8
  have sX8 := sX7.up h8
  have sY8 := sY7.up h8
  have sZ8 := sZ7.up h8
  clear h8 D7 D7c D7f X7 X7c X7f Y7 Y7c Y7f Z7 Z7c Z7f U7 sX7 sY7 sZ7
  have D8c := D8.cell
  have D8l := D8.lt
  have D8f := D8.frozen
  have X8c := X8.cell
  have X8l := X8.lt
  have X8f := X8.frozen
  have Y8c := Y8.cell
  have Y8l := Y8.lt
  have Y8f := Y8.frozen
  have Z8c := Z8.cell
  have Z8l := Z8.lt
  have Z8f := Z8.frozen
  go_wp2
  go_ret
  exact ⟨rfl, U8⟩

set_option maxHeartbeats 4000000 in
theorem walk_A0 (m : Me) (P Q : Addr) (c d : Nat) (a : Int) (b : Int) (v : Int) (k : Int) (w : World) (hm : Sits w m P Q c d) (hn : m.n ≤ 200) (ha : U64 a) (hb : U64 b) (hv : U64 v) (hk : I64 k) (ta : m.there a) (hl : m.ld a = v) (hmv : m.mve a b k ≠ 0) :
    Calls Try.prog 9 #[.agg #[.int .i64 m.n, .slice (some P) m.n c, .slice (some Q) m.n d, .int .u64 a, .int .u64 b, .int .u64 v, .int .i64 k]] w fun e w' => e = .returned (.bool true) ∧ Up w w' := by
  have hfew : few m.n m.n m.n = true := by unfold few rt; simp; have := hm.1.1; omega
  have hf := fun w => few_any m.n (some P) (some Q) m.n m.n c d w
  rw [hfew] at hf
  have hf := Lib.hid hf
  have hok := Lib.hid hm.1
  have HM := Lib.hid hm
  clear hfew hm
  have h1 := Lib.hid (fun (W : World) (hS : Sits W m P Q c d) => show Calls Try.prog 15 #[.agg #[.int .i64 m.n, .slice (some P) m.n c, .slice (some Q) m.n d], .int .u64 a, .int .u64 v] W (Gives1 W (m.st a v) (.int .i64 0)) from by
    have h := store_any (m) a v P Q c d W hS ha
    rw [show m.lde a = 0 from if_pos ta] at h
    exact h)
  have h2 := Lib.hid (fun (W : World) (hS : Sits W m P Q c d) => show Calls Try.prog 17 #[.agg #[.int .i64 m.n, .slice (some P) m.n c, .slice (some Q) m.n d], .int .u64 a, .int .u64 v, .int .u64 b] W (Gives2 W (m.st a b) (.bool true) (.int .i64 0)) from by
    have h := swap_any (m) a v b P Q c d W hS ha
    rw [show m.sw a v b = m.st a b from if_pos ⟨ta, hl⟩, show m.swb a v = true from decide_eq_true ⟨ta, hl⟩, show m.lde a = 0 from if_pos ta] at h
    exact h)
  have h3 := Lib.hid (fun (W : World) (hS : Sits W m P Q c d) => show Calls Try.prog 19 #[.agg #[.int .i64 m.n, .slice (some P) m.n c, .slice (some Q) m.n d], .int .u64 a, .int .u64 b, .int .i64 k] W (Gives1 W (m) (.int .i64 (m.mve a b k))) from by
    have h := move_any m a b k P Q c d W hS ha hb hk
    rw [mv_no hmv] at h
    exact h)
  have h7 := Lib.hid (fun (P Q P' Q' : Addr) (c d c' d' : Nat) (W : World) => rsame_self m P Q P' Q' c d c' d' W)
  have hz : (m.mve a b k == 0) = false := beq_eq_false_iff_ne.mpr hmv
  generalize m.mve a b k = z at h3 hz
  generalize m.st a v = X at h1
  generalize m.st a b = Y at h2
  clear ta hl hmv
  go_enter Try.func9, Try.ntmps9
  go_wp2_with (fail)
  refine (shown_any _).mono ?_
  rintro e w1 ⟨rfl, h1⟩
  have D1 := (Blk.new _ 25 _).up h1
  simp at D1
  have U1 : Up w w1 := (((Up.refl w).alloc _).alloc _).trans h1
  clear h1
  have D1c := D1.cell
  have D1l := D1.lt
  have D1f := D1.frozen
  go_wp2_with (fail)
  refine (hf.out _).mono ?_
  rintro e w2 ⟨rfl, h2⟩
  have D2 := D1.up h2
  have U2 : Up w w2 := U1.trans h2
  clear h2 D1 D1c D1f U1
  have D2c := D2.cell
  have D2l := D2.lt
  have D2f := D2.frozen
  go_wp2_with (fail)
  refine (h1.out _ (HM.out.up U2)).mono ?_
  rintro e w3 ⟨PX, QX, cX, dX, rfl, sX3, h3⟩
  have D3 := D2.up h3
  have U3 : Up w w3 := U2.trans h3
  clear h3 D2 D2c D2f U2
  have D3c := D3.cell
  have D3l := D3.lt
  have D3f := D3.frozen
  go_wp2_with (fail)
  refine (h2.out _ (HM.out.up (U3.alloc _))).mono ?_
  rintro e w4 ⟨PY, QY, cY, dY, rfl, sY4, h4⟩
  have D4 := (D3.alloc _).up h4
  have X4 := (Blk.new w3 25 _).up h4
  have nXD4 := Nat.ne_of_gt D3l
  have nDX4 := Nat.ne_of_lt D3l
  have U4 : Up w w4 := (U3.alloc _).trans h4
  have sX4 := (sX3.up ((Up.refl _).alloc _)).up h4
  clear h4 D3 D3c D3f U3 sX3
  have D4c := D4.cell
  have D4l := D4.lt
  have D4f := D4.frozen
  have X4c := X4.cell
  have X4l := X4.lt
  have X4f := X4.frozen
  go_wp2_with (fail)
  refine (h3.out _ (HM.out.up (U4.alloc _))).mono ?_
  rintro e w5 ⟨PZ, QZ, cZ, dZ, rfl, sZ5, h5⟩
  have D5 := (D4.alloc _).up h5
  have X5 := (X4.alloc _).up h5
  have Y5 := (Blk.new w4 25 _).up h5
  have nYD5 := Nat.ne_of_gt D4l
  have nDY5 := Nat.ne_of_lt D4l
  have nYX5 := Nat.ne_of_gt X4l
  have nXY5 := Nat.ne_of_lt X4l
  have U5 : Up w w5 := (U4.alloc _).trans h5
  have sX5 := (sX4.up ((Up.refl _).alloc _)).up h5
  have sY5 := (sY4.up ((Up.refl _).alloc _)).up h5
  clear h5 D4 D4c D4f X4 X4c X4f U4 sX4 sY4
  have D5c := D5.cell
  have D5l := D5.lt
  have D5f := D5.frozen
  have X5c := X5.cell
  have X5l := X5.lt
  have X5f := X5.frozen
  have Y5c := Y5.cell
  have Y5l := Y5.lt
  have Y5f := Y5.frozen
  go_wp2_with (fail)
  refine (h7.out _ _ _ _ _ _ _ _ _ (sZ5.up ((Up.refl _).alloc _)) (HM.out.up (U5.alloc _))).mono ?_
  rintro e w6 ⟨rfl, h6⟩
  have D6 := (D5.alloc _).up h6
  have X6 := (X5.alloc _).up h6
  have Y6 := (Y5.alloc _).up h6
  have Z6 := (Blk.new w5 25 _).up h6
  have nZD6 := Nat.ne_of_gt D5l
  have nDZ6 := Nat.ne_of_lt D5l
  have nZX6 := Nat.ne_of_gt X5l
  have nXZ6 := Nat.ne_of_lt X5l
  have nZY6 := Nat.ne_of_gt Y5l
  have nYZ6 := Nat.ne_of_lt Y5l
  have U6 : Up w w6 := (U5.alloc _).trans h6
  have sX6 := (sX5.up ((Up.refl _).alloc _)).up h6
  have sY6 := (sY5.up ((Up.refl _).alloc _)).up h6
  have sZ6 := (sZ5.up ((Up.refl _).alloc _)).up h6
  clear h6 D5 D5c D5f X5 X5c X5f Y5 Y5c Y5f U5 sX5 sY5 sZ5
  have D6c := D6.cell
  have D6l := D6.lt
  have D6f := D6.frozen
  have X6c := X6.cell
  have X6l := X6.lt
  have X6f := X6.frozen
  have Y6c := Y6.cell
  have Y6l := Y6.lt
  have Y6f := Y6.frozen
  have Z6c := Z6.cell
  have Z6l := Z6.lt
  have Z6f := Z6.frozen
  go_wp2_with (fail)
  refine (rright_me _ _ _ _ _ _ sX6.1).mono ?_
  rintro e w7 ⟨rfl, h7⟩
  have D7 := D6.up h7
  have X7 := X6.up h7
  have Y7 := Y6.up h7
  have Z7 := Z6.up h7
  have U7 : Up w w7 := U6.trans h7
  have sX7 := sX6.up h7
  have sY7 := sY6.up h7
  have sZ7 := sZ6.up h7
  clear h7 D6 D6c D6f X6 X6c X6f Y6 Y6c Y6f Z6 Z6c Z6f U6 sX6 sY6 sZ6
  have D7c := D7.cell
  have D7l := D7.lt
  have D7f := D7.frozen
  have X7c := X7.cell
  have X7l := X7.lt
  have X7f := X7.frozen
  have Y7c := Y7.cell
  have Y7l := Y7.lt
  have Y7f := Y7.frozen
  have Z7c := Z7.cell
  have Z7l := Z7.lt
  have Z7f := Z7.frozen
  go_wp2_with (fail)
  refine (rright_me _ _ _ _ _ _ sY7.1).mono ?_
  rintro e w8 ⟨rfl, h8⟩
  have D8 := D7.up h8
  have X8 := X7.up h8
  have Y8 := Y7.up h8
  have Z8 := Z7.up h8
  have U8 : Up w w8 := U7.trans h8
  have sX8 := sX7.up h8
  have sY8 := sY7.up h8
  have sZ8 := sZ7.up h8
  clear h8 D7 D7c D7f X7 X7c X7f Y7 Y7c Y7f Z7 Z7c Z7f U7 sX7 sY7 sZ7
  have D8c := D8.cell
  have D8l := D8.lt
  have D8f := D8.frozen
  have X8c := X8.cell
  have X8l := X8.lt
  have X8f := X8.frozen
  have Y8c := Y8.cell
  have Y8l := Y8.lt
  have Y8f := Y8.frozen
  have Z8c := Z8.cell
  have Z8l := Z8.lt
  have Z8f := Z8.frozen
  go_wp2_with (fail)
  refine (rright_me _ _ _ _ _ _ sZ8.1).mono ?_
  rintro e w9 ⟨rfl, h9⟩
  have D9 := D8.up h9
  have X9 := X8.up h9
  have Y9 := Y8.up h9
  have Z9 := Z8.up h9
  have U9 : Up w w9 := U8.trans h9
  have sX9 := sX8.up h9
  have sY9 := sY8.up h9
  have sZ9 := sZ8.up h9
  clear h9 D8 D8c D8f X8 X8c X8f Y8 Y8c Y8f Z8 Z8c Z8f U8 sX8 sY8 sZ8
  have D9c := D9.cell
  have D9l := D9.lt
  have D9f := D9.frozen
  have X9c := X9.cell
  have X9l := X9.lt
  have X9f := X9.frozen
  have Y9c := Y9.cell
  have Y9l := Y9.lt
  have Y9f := Y9.frozen
  have Z9c := Z9.cell
  have Z9l := Z9.lt
  have Z9f := Z9.frozen
  go_wp2
  go_ret
  exact ⟨rfl, U9⟩

set_option maxHeartbeats 4000000 in
theorem walk_B1 (m : Me) (P Q : Addr) (c d : Nat) (a : Int) (b : Int) (v : Int) (k : Int) (w : World) (hm : Sits w m P Q c d) (hn : m.n ≤ 200) (ha : U64 a) (hb : U64 b) (hv : U64 v) (hk : I64 k) (ta : m.there a) (hl : m.ld a ≠ v) (hmv : m.mve a b k = 0) :
    Calls Try.prog 9 #[.agg #[.int .i64 m.n, .slice (some P) m.n c, .slice (some Q) m.n d, .int .u64 a, .int .u64 b, .int .u64 v, .int .i64 k]] w fun e w' => e = .returned (.bool true) ∧ Up w w' := by
  have hfew : few m.n m.n m.n = true := by unfold few rt; simp; have := hm.1.1; omega
  have hf := fun w => few_any m.n (some P) (some Q) m.n m.n c d w
  rw [hfew] at hf
  have hf := Lib.hid hf
  have hok := Lib.hid hm.1
  have HM := Lib.hid hm
  clear hfew hm
  have h1 := Lib.hid (fun (W : World) (hS : Sits W m P Q c d) => show Calls Try.prog 15 #[.agg #[.int .i64 m.n, .slice (some P) m.n c, .slice (some Q) m.n d], .int .u64 a, .int .u64 v] W (Gives1 W (m.st a v) (.int .i64 0)) from by
    have h := store_any (m) a v P Q c d W hS ha
    rw [show m.lde a = 0 from if_pos ta] at h
    exact h)
  have h2 := Lib.hid (fun (W : World) (hS : Sits W m P Q c d) => show Calls Try.prog 17 #[.agg #[.int .i64 m.n, .slice (some P) m.n c, .slice (some Q) m.n d], .int .u64 a, .int .u64 v, .int .u64 b] W (Gives2 W (m) (.bool false) (.int .i64 0)) from by
    have h := swap_any (m) a v b P Q c d W hS ha
    rw [show m.sw a v b = m from if_neg (fun q => hl q.2), show m.swb a v = false from decide_eq_false (fun q => hl q.2), show m.lde a = 0 from if_pos ta] at h
    exact h)
  have h3 := Lib.hid (fun (W : World) (hS : Sits W m P Q c d) => show Calls Try.prog 19 #[.agg #[.int .i64 m.n, .slice (some P) m.n c, .slice (some Q) m.n d], .int .u64 a, .int .u64 b, .int .i64 k] W (Gives1 W (m.mv a b k) (.int .i64 0)) from by
    have h := move_any m a b k P Q c d W hS ha hb hk
    rw [hmv] at h
    exact h)
  have h7 := Lib.hid (fun (P Q P' Q' : Addr) (c d c' d' : Nat) (W : World) => rsame_self m P Q P' Q' c d c' d' W)
  generalize m.mv a b k = Z at h3
  generalize m.st a v = X at h1
  clear ta hl hmv
  go_enter Try.func9, Try.ntmps9
  go_wp2_with (fail)
  refine (shown_any _).mono ?_
  rintro e w1 ⟨rfl, h1⟩
  have D1 := (Blk.new _ 25 _).up h1
  simp at D1
  have U1 : Up w w1 := (((Up.refl w).alloc _).alloc _).trans h1
  clear h1
  have D1c := D1.cell
  have D1l := D1.lt
  have D1f := D1.frozen
  go_wp2_with (fail)
  refine (hf.out _).mono ?_
  rintro e w2 ⟨rfl, h2⟩
  have D2 := D1.up h2
  have U2 : Up w w2 := U1.trans h2
  clear h2 D1 D1c D1f U1
  have D2c := D2.cell
  have D2l := D2.lt
  have D2f := D2.frozen
  go_wp2_with (fail)
  refine (h1.out _ (HM.out.up U2)).mono ?_
  rintro e w3 ⟨PX, QX, cX, dX, rfl, sX3, h3⟩
  have D3 := D2.up h3
  have U3 : Up w w3 := U2.trans h3
  clear h3 D2 D2c D2f U2
  have D3c := D3.cell
  have D3l := D3.lt
  have D3f := D3.frozen
  go_wp2_with (fail)
  refine (h2.out _ (HM.out.up (U3.alloc _))).mono ?_
  rintro e w4 ⟨PY, QY, cY, dY, rfl, sY4, h4⟩
  have D4 := (D3.alloc _).up h4
  have X4 := (Blk.new w3 25 _).up h4
  have nXD4 := Nat.ne_of_gt D3l
  have nDX4 := Nat.ne_of_lt D3l
  have U4 : Up w w4 := (U3.alloc _).trans h4
  have sX4 := (sX3.up ((Up.refl _).alloc _)).up h4
  clear h4 D3 D3c D3f U3 sX3
  have D4c := D4.cell
  have D4l := D4.lt
  have D4f := D4.frozen
  have X4c := X4.cell
  have X4l := X4.lt
  have X4f := X4.frozen
  go_wp2_with (fail)
  refine (h3.out _ (HM.out.up (U4.alloc _))).mono ?_
  rintro e w5 ⟨PZ, QZ, cZ, dZ, rfl, sZ5, h5⟩
  have D5 := (D4.alloc _).up h5
  have X5 := (X4.alloc _).up h5
  have Y5 := (Blk.new w4 25 _).up h5
  have nYD5 := Nat.ne_of_gt D4l
  have nDY5 := Nat.ne_of_lt D4l
  have nYX5 := Nat.ne_of_gt X4l
  have nXY5 := Nat.ne_of_lt X4l
  have U5 : Up w w5 := (U4.alloc _).trans h5
  have sX5 := (sX4.up ((Up.refl _).alloc _)).up h5
  have sY5 := (sY4.up ((Up.refl _).alloc _)).up h5
  clear h5 D4 D4c D4f X4 X4c X4f U4 sX4 sY4
  have D5c := D5.cell
  have D5l := D5.lt
  have D5f := D5.frozen
  have X5c := X5.cell
  have X5l := X5.lt
  have X5f := X5.frozen
  have Y5c := Y5.cell
  have Y5l := Y5.lt
  have Y5f := Y5.frozen
  go_wp2_with (fail)
  refine (h7.out _ _ _ _ _ _ _ _ _ (sY5.up ((Up.refl _).alloc _)) (HM.out.up (U5.alloc _))).mono ?_
  rintro e w6 ⟨rfl, h6⟩
  have D6 := (D5.alloc _).up h6
  have X6 := (X5.alloc _).up h6
  have Y6 := (Y5.alloc _).up h6
  have Z6 := (Blk.new w5 25 _).up h6
  have nZD6 := Nat.ne_of_gt D5l
  have nDZ6 := Nat.ne_of_lt D5l
  have nZX6 := Nat.ne_of_gt X5l
  have nXZ6 := Nat.ne_of_lt X5l
  have nZY6 := Nat.ne_of_gt Y5l
  have nYZ6 := Nat.ne_of_lt Y5l
  have U6 : Up w w6 := (U5.alloc _).trans h6
  have sX6 := (sX5.up ((Up.refl _).alloc _)).up h6
  have sY6 := (sY5.up ((Up.refl _).alloc _)).up h6
  have sZ6 := (sZ5.up ((Up.refl _).alloc _)).up h6
  clear h6 D5 D5c D5f X5 X5c X5f Y5 Y5c Y5f U5 sX5 sY5 sZ5
  have D6c := D6.cell
  have D6l := D6.lt
  have D6f := D6.frozen
  have X6c := X6.cell
  have X6l := X6.lt
  have X6f := X6.frozen
  have Y6c := Y6.cell
  have Y6l := Y6.lt
  have Y6f := Y6.frozen
  have Z6c := Z6.cell
  have Z6l := Z6.lt
  have Z6f := Z6.frozen
  go_wp2_with (fail)
  refine (rright_me _ _ _ _ _ _ sX6.1).mono ?_
  rintro e w7 ⟨rfl, h7⟩
  have D7 := D6.up h7
  have X7 := X6.up h7
  have Y7 := Y6.up h7
  have Z7 := Z6.up h7
  have U7 : Up w w7 := U6.trans h7
  have sX7 := sX6.up h7
  have sY7 := sY6.up h7
  have sZ7 := sZ6.up h7
  clear h7 D6 D6c D6f X6 X6c X6f Y6 Y6c Y6f Z6 Z6c Z6f U6 sX6 sY6 sZ6
  have D7c := D7.cell
  have D7l := D7.lt
  have D7f := D7.frozen
  have X7c := X7.cell
  have X7l := X7.lt
  have X7f := X7.frozen
  have Y7c := Y7.cell
  have Y7l := Y7.lt
  have Y7f := Y7.frozen
  have Z7c := Z7.cell
  have Z7l := Z7.lt
  have Z7f := Z7.frozen
  go_wp2_with (fail)
  refine (rright_me _ _ _ _ _ _ sY7.1).mono ?_
  rintro e w8 ⟨rfl, h8⟩
  have D8 := D7.up h8
  have X8 := X7.up h8
  have Y8 := Y7.up h8
  have Z8 := Z7.up h8
  have U8 : Up w w8 := U7.trans h8
  have sX8 := sX7.up h8
  have sY8 := sY7.up h8
  have sZ8 := sZ7.up h8
  clear h8 D7 D7c D7f X7 X7c X7f Y7 Y7c Y7f Z7 Z7c Z7f U7 sX7 sY7 sZ7
  have D8c := D8.cell
  have D8l := D8.lt
  have D8f := D8.frozen
  have X8c := X8.cell
  have X8l := X8.lt
  have X8f := X8.frozen
  have Y8c := Y8.cell
  have Y8l := Y8.lt
  have Y8f := Y8.frozen
  have Z8c := Z8.cell
  have Z8l := Z8.lt
  have Z8f := Z8.frozen
  go_wp2_with (fail)
  refine (rright_me _ _ _ _ _ _ sZ8.1).mono ?_
  rintro e w9 ⟨rfl, h9⟩
  have D9 := D8.up h9
  have X9 := X8.up h9
  have Y9 := Y8.up h9
  have Z9 := Z8.up h9
  have U9 : Up w w9 := U8.trans h9
  have sX9 := sX8.up h9
  have sY9 := sY8.up h9
  have sZ9 := sZ8.up h9
  clear h9 D8 D8c D8f X8 X8c X8f Y8 Y8c Y8f Z8 Z8c Z8f U8 sX8 sY8 sZ8
  have D9c := D9.cell
  have D9l := D9.lt
  have D9f := D9.frozen
  have X9c := X9.cell
  have X9l := X9.lt
  have X9f := X9.frozen
  have Y9c := Y9.cell
  have Y9l := Y9.lt
  have Y9f := Y9.frozen
  have Z9c := Z9.cell
  have Z9l := Z9.lt
  have Z9f := Z9.frozen
  go_wp2
  go_ret
  exact ⟨rfl, U9⟩

set_option maxHeartbeats 4000000 in
theorem walk_B0 (m : Me) (P Q : Addr) (c d : Nat) (a : Int) (b : Int) (v : Int) (k : Int) (w : World) (hm : Sits w m P Q c d) (hn : m.n ≤ 200) (ha : U64 a) (hb : U64 b) (hv : U64 v) (hk : I64 k) (ta : m.there a) (hl : m.ld a ≠ v) (hmv : m.mve a b k ≠ 0) :
    Calls Try.prog 9 #[.agg #[.int .i64 m.n, .slice (some P) m.n c, .slice (some Q) m.n d, .int .u64 a, .int .u64 b, .int .u64 v, .int .i64 k]] w fun e w' => e = .returned (.bool true) ∧ Up w w' := by
  have hfew : few m.n m.n m.n = true := by unfold few rt; simp; have := hm.1.1; omega
  have hf := fun w => few_any m.n (some P) (some Q) m.n m.n c d w
  rw [hfew] at hf
  have hf := Lib.hid hf
  have hok := Lib.hid hm.1
  have HM := Lib.hid hm
  clear hfew hm
  have h1 := Lib.hid (fun (W : World) (hS : Sits W m P Q c d) => show Calls Try.prog 15 #[.agg #[.int .i64 m.n, .slice (some P) m.n c, .slice (some Q) m.n d], .int .u64 a, .int .u64 v] W (Gives1 W (m.st a v) (.int .i64 0)) from by
    have h := store_any (m) a v P Q c d W hS ha
    rw [show m.lde a = 0 from if_pos ta] at h
    exact h)
  have h2 := Lib.hid (fun (W : World) (hS : Sits W m P Q c d) => show Calls Try.prog 17 #[.agg #[.int .i64 m.n, .slice (some P) m.n c, .slice (some Q) m.n d], .int .u64 a, .int .u64 v, .int .u64 b] W (Gives2 W (m) (.bool false) (.int .i64 0)) from by
    have h := swap_any (m) a v b P Q c d W hS ha
    rw [show m.sw a v b = m from if_neg (fun q => hl q.2), show m.swb a v = false from decide_eq_false (fun q => hl q.2), show m.lde a = 0 from if_pos ta] at h
    exact h)
  have h3 := Lib.hid (fun (W : World) (hS : Sits W m P Q c d) => show Calls Try.prog 19 #[.agg #[.int .i64 m.n, .slice (some P) m.n c, .slice (some Q) m.n d], .int .u64 a, .int .u64 b, .int .i64 k] W (Gives1 W (m) (.int .i64 (m.mve a b k))) from by
    have h := move_any m a b k P Q c d W hS ha hb hk
    rw [mv_no hmv] at h
    exact h)
  have h7 := Lib.hid (fun (P Q P' Q' : Addr) (c d c' d' : Nat) (W : World) => rsame_self m P Q P' Q' c d c' d' W)
  have hz : (m.mve a b k == 0) = false := beq_eq_false_iff_ne.mpr hmv
  generalize m.mve a b k = z at h3 hz
  generalize m.st a v = X at h1
  clear ta hl hmv
  go_enter Try.func9, Try.ntmps9
  go_wp2_with (fail)
  refine (shown_any _).mono ?_
  rintro e w1 ⟨rfl, h1⟩
  have D1 := (Blk.new _ 25 _).up h1
  simp at D1
  have U1 : Up w w1 := (((Up.refl w).alloc _).alloc _).trans h1
  clear h1
  have D1c := D1.cell
  have D1l := D1.lt
  have D1f := D1.frozen
  go_wp2_with (fail)
  refine (hf.out _).mono ?_
  rintro e w2 ⟨rfl, h2⟩
  have D2 := D1.up h2
  have U2 : Up w w2 := U1.trans h2
  clear h2 D1 D1c D1f U1
  have D2c := D2.cell
  have D2l := D2.lt
  have D2f := D2.frozen
  go_wp2_with (fail)
  refine (h1.out _ (HM.out.up U2)).mono ?_
  rintro e w3 ⟨PX, QX, cX, dX, rfl, sX3, h3⟩
  have D3 := D2.up h3
  have U3 : Up w w3 := U2.trans h3
  clear h3 D2 D2c D2f U2
  have D3c := D3.cell
  have D3l := D3.lt
  have D3f := D3.frozen
  go_wp2_with (fail)
  refine (h2.out _ (HM.out.up (U3.alloc _))).mono ?_
  rintro e w4 ⟨PY, QY, cY, dY, rfl, sY4, h4⟩
  have D4 := (D3.alloc _).up h4
  have X4 := (Blk.new w3 25 _).up h4
  have nXD4 := Nat.ne_of_gt D3l
  have nDX4 := Nat.ne_of_lt D3l
  have U4 : Up w w4 := (U3.alloc _).trans h4
  have sX4 := (sX3.up ((Up.refl _).alloc _)).up h4
  clear h4 D3 D3c D3f U3 sX3
  have D4c := D4.cell
  have D4l := D4.lt
  have D4f := D4.frozen
  have X4c := X4.cell
  have X4l := X4.lt
  have X4f := X4.frozen
  go_wp2_with (fail)
  refine (h3.out _ (HM.out.up (U4.alloc _))).mono ?_
  rintro e w5 ⟨PZ, QZ, cZ, dZ, rfl, sZ5, h5⟩
  have D5 := (D4.alloc _).up h5
  have X5 := (X4.alloc _).up h5
  have Y5 := (Blk.new w4 25 _).up h5
  have nYD5 := Nat.ne_of_gt D4l
  have nDY5 := Nat.ne_of_lt D4l
  have nYX5 := Nat.ne_of_gt X4l
  have nXY5 := Nat.ne_of_lt X4l
  have U5 : Up w w5 := (U4.alloc _).trans h5
  have sX5 := (sX4.up ((Up.refl _).alloc _)).up h5
  have sY5 := (sY4.up ((Up.refl _).alloc _)).up h5
  clear h5 D4 D4c D4f X4 X4c X4f U4 sX4 sY4
  have D5c := D5.cell
  have D5l := D5.lt
  have D5f := D5.frozen
  have X5c := X5.cell
  have X5l := X5.lt
  have X5f := X5.frozen
  have Y5c := Y5.cell
  have Y5l := Y5.lt
  have Y5f := Y5.frozen
  go_wp2_with (fail)
  refine (h7.out _ _ _ _ _ _ _ _ _ (sY5.up ((Up.refl _).alloc _)) (HM.out.up (U5.alloc _))).mono ?_
  rintro e w6 ⟨rfl, h6⟩
  have D6 := (D5.alloc _).up h6
  have X6 := (X5.alloc _).up h6
  have Y6 := (Y5.alloc _).up h6
  have Z6 := (Blk.new w5 25 _).up h6
  have nZD6 := Nat.ne_of_gt D5l
  have nDZ6 := Nat.ne_of_lt D5l
  have nZX6 := Nat.ne_of_gt X5l
  have nXZ6 := Nat.ne_of_lt X5l
  have nZY6 := Nat.ne_of_gt Y5l
  have nYZ6 := Nat.ne_of_lt Y5l
  have U6 : Up w w6 := (U5.alloc _).trans h6
  have sX6 := (sX5.up ((Up.refl _).alloc _)).up h6
  have sY6 := (sY5.up ((Up.refl _).alloc _)).up h6
  have sZ6 := (sZ5.up ((Up.refl _).alloc _)).up h6
  clear h6 D5 D5c D5f X5 X5c X5f Y5 Y5c Y5f U5 sX5 sY5 sZ5
  have D6c := D6.cell
  have D6l := D6.lt
  have D6f := D6.frozen
  have X6c := X6.cell
  have X6l := X6.lt
  have X6f := X6.frozen
  have Y6c := Y6.cell
  have Y6l := Y6.lt
  have Y6f := Y6.frozen
  have Z6c := Z6.cell
  have Z6l := Z6.lt
  have Z6f := Z6.frozen
  go_wp2_with (fail)
  refine (h7.out _ _ _ _ _ _ _ _ _ sZ6 (HM.out.up U6)).mono ?_
  rintro e w7 ⟨rfl, h7⟩
  have D7 := D6.up h7
  have X7 := X6.up h7
  have Y7 := Y6.up h7
  have Z7 := Z6.up h7
  have U7 : Up w w7 := U6.trans h7
  have sX7 := sX6.up h7
  have sY7 := sY6.up h7
  have sZ7 := sZ6.up h7
  clear h7 D6 D6c D6f X6 X6c X6f Y6 Y6c Y6f Z6 Z6c Z6f U6 sX6 sY6 sZ6
  have D7c := D7.cell
  have D7l := D7.lt
  have D7f := D7.frozen
  have X7c := X7.cell
  have X7l := X7.lt
  have X7f := X7.frozen
  have Y7c := Y7.cell
  have Y7l := Y7.lt
  have Y7f := Y7.frozen
  have Z7c := Z7.cell
  have Z7l := Z7.lt
  have Z7f := Z7.frozen
  go_wp2_with (fail)
  refine (rright_me _ _ _ _ _ _ sX7.1).mono ?_
  rintro e w8 ⟨rfl, h8⟩
  have D8 := D7.up h8
  have X8 := X7.up h8
  have Y8 := Y7.up h8
  have Z8 := Z7.up h8
  have U8 : Up w w8 := U7.trans h8
  have sX8 := sX7.up h8
  have sY8 := sY7.up h8
  have sZ8 := sZ7.up h8
  clear h8 D7 D7c D7f X7 X7c X7f Y7 Y7c Y7f Z7 Z7c Z7f U7 sX7 sY7 sZ7
  have D8c := D8.cell
  have D8l := D8.lt
  have D8f := D8.frozen
  have X8c := X8.cell
  have X8l := X8.lt
  have X8f := X8.frozen
  have Y8c := Y8.cell
  have Y8l := Y8.lt
  have Y8f := Y8.frozen
  have Z8c := Z8.cell
  have Z8l := Z8.lt
  have Z8f := Z8.frozen
  go_wp2_with (fail)
  refine (rright_me _ _ _ _ _ _ sY8.1).mono ?_
  rintro e w9 ⟨rfl, h9⟩
  have D9 := D8.up h9
  have X9 := X8.up h9
  have Y9 := Y8.up h9
  have Z9 := Z8.up h9
  have U9 : Up w w9 := U8.trans h9
  have sX9 := sX8.up h9
  have sY9 := sY8.up h9
  have sZ9 := sZ8.up h9
  clear h9 D8 D8c D8f X8 X8c X8f Y8 Y8c Y8f Z8 Z8c Z8f U8 sX8 sY8 sZ8
  have D9c := D9.cell
  have D9l := D9.lt
  have D9f := D9.frozen
  have X9c := X9.cell
  have X9l := X9.lt
  have X9f := X9.frozen
  have Y9c := Y9.cell
  have Y9l := Y9.lt
  have Y9f := Y9.frozen
  have Z9c := Z9.cell
  have Z9l := Z9.lt
  have Z9f := Z9.frozen
  go_wp2_with (fail)
  refine (rright_me _ _ _ _ _ _ sZ9.1).mono ?_
  rintro e w10 ⟨rfl, h10⟩
  have D10 := D9.up h10
  have X10 := X9.up h10
  have Y10 := Y9.up h10
  have Z10 := Z9.up h10
  have U10 : Up w w10 := U9.trans h10
  have sX10 := sX9.up h10
  have sY10 := sY9.up h10
  have sZ10 := sZ9.up h10
  clear h10 D9 D9c D9f X9 X9c X9f Y9 Y9c Y9f Z9 Z9c Z9f U9 sX9 sY9 sZ9
  have D10c := D10.cell
  have D10l := D10.lt
  have D10f := D10.frozen
  have X10c := X10.cell
  have X10l := X10.lt
  have X10f := X10.frozen
  have Y10c := Y10.cell
  have Y10l := Y10.lt
  have Y10f := Y10.frozen
  have Z10c := Z10.cell
  have Z10l := Z10.lt
  have Z10f := Z10.frozen
  go_wp2
  go_ret
  exact ⟨rfl, U10⟩

set_option maxHeartbeats 4000000 in
theorem walk_C1 (m : Me) (P Q : Addr) (c d : Nat) (a : Int) (b : Int) (v : Int) (k : Int) (w : World) (hm : Sits w m P Q c d) (hn : m.n ≤ 200) (ha : U64 a) (hb : U64 b) (hv : U64 v) (hk : I64 k) (ta : ¬ m.there a) (hmv : m.mve a b k = 0) :
    Calls Try.prog 9 #[.agg #[.int .i64 m.n, .slice (some P) m.n c, .slice (some Q) m.n d, .int .u64 a, .int .u64 b, .int .u64 v, .int .i64 k]] w fun e w' => e = .returned (.bool true) ∧ Up w w' := by
  have hfew : few m.n m.n m.n = true := by unfold few rt; simp; have := hm.1.1; omega
  have hf := fun w => few_any m.n (some P) (some Q) m.n m.n c d w
  rw [hfew] at hf
  have hf := Lib.hid hf
  have hok := Lib.hid hm.1
  have HM := Lib.hid hm
  clear hfew hm
  have h1 := Lib.hid (fun (W : World) (hS : Sits W m P Q c d) => show Calls Try.prog 15 #[.agg #[.int .i64 m.n, .slice (some P) m.n c, .slice (some Q) m.n d], .int .u64 a, .int .u64 v] W (Gives1 W (m) (.int .i64 2)) from by
    have h := store_any (m) a v P Q c d W hS ha
    rw [show m.lde a = 2 from if_neg ta, show m.st a v = m from if_neg ta] at h
    exact h)
  have h2 := Lib.hid (fun (W : World) (hS : Sits W m P Q c d) => show Calls Try.prog 17 #[.agg #[.int .i64 m.n, .slice (some P) m.n c, .slice (some Q) m.n d], .int .u64 a, .int .u64 v, .int .u64 b] W (Gives2 W (m) (.bool false) (.int .i64 2)) from by
    have h := swap_any (m) a v b P Q c d W hS ha
    rw [show m.sw a v b = m from if_neg (fun q => ta q.1), show m.swb a v = false from decide_eq_false (fun q => ta q.1), show m.lde a = 2 from if_neg ta] at h
    exact h)
  have h3 := Lib.hid (fun (W : World) (hS : Sits W m P Q c d) => show Calls Try.prog 19 #[.agg #[.int .i64 m.n, .slice (some P) m.n c, .slice (some Q) m.n d], .int .u64 a, .int .u64 b, .int .i64 k] W (Gives1 W (m.mv a b k) (.int .i64 0)) from by
    have h := move_any m a b k P Q c d W hS ha hb hk
    rw [hmv] at h
    exact h)
  have h7 := Lib.hid (fun (P Q P' Q' : Addr) (c d c' d' : Nat) (W : World) => rsame_self m P Q P' Q' c d c' d' W)
  generalize m.mv a b k = Z at h3
  clear ta hmv
  go_enter Try.func9, Try.ntmps9
  go_wp2_with (fail)
  refine (shown_any _).mono ?_
  rintro e w1 ⟨rfl, h1⟩
  have D1 := (Blk.new _ 25 _).up h1
  simp at D1
  have U1 : Up w w1 := (((Up.refl w).alloc _).alloc _).trans h1
  clear h1
  have D1c := D1.cell
  have D1l := D1.lt
  have D1f := D1.frozen
  go_wp2_with (fail)
  refine (hf.out _).mono ?_
  rintro e w2 ⟨rfl, h2⟩
  have D2 := D1.up h2
  have U2 : Up w w2 := U1.trans h2
  clear h2 D1 D1c D1f U1
  have D2c := D2.cell
  have D2l := D2.lt
  have D2f := D2.frozen
  go_wp2_with (fail)
  refine (h1.out _ (HM.out.up U2)).mono ?_
  rintro e w3 ⟨PX, QX, cX, dX, rfl, sX3, h3⟩
  have D3 := D2.up h3
  have U3 : Up w w3 := U2.trans h3
  clear h3 D2 D2c D2f U2
  have D3c := D3.cell
  have D3l := D3.lt
  have D3f := D3.frozen
  go_wp2_with (fail)
  refine (h2.out _ (HM.out.up (U3.alloc _))).mono ?_
  rintro e w4 ⟨PY, QY, cY, dY, rfl, sY4, h4⟩
  have D4 := (D3.alloc _).up h4
  have X4 := (Blk.new w3 25 _).up h4
  have nXD4 := Nat.ne_of_gt D3l
  have nDX4 := Nat.ne_of_lt D3l
  have U4 : Up w w4 := (U3.alloc _).trans h4
  have sX4 := (sX3.up ((Up.refl _).alloc _)).up h4
  clear h4 D3 D3c D3f U3 sX3
  have D4c := D4.cell
  have D4l := D4.lt
  have D4f := D4.frozen
  have X4c := X4.cell
  have X4l := X4.lt
  have X4f := X4.frozen
  go_wp2_with (fail)
  refine (h3.out _ (HM.out.up (U4.alloc _))).mono ?_
  rintro e w5 ⟨PZ, QZ, cZ, dZ, rfl, sZ5, h5⟩
  have D5 := (D4.alloc _).up h5
  have X5 := (X4.alloc _).up h5
  have Y5 := (Blk.new w4 25 _).up h5
  have nYD5 := Nat.ne_of_gt D4l
  have nDY5 := Nat.ne_of_lt D4l
  have nYX5 := Nat.ne_of_gt X4l
  have nXY5 := Nat.ne_of_lt X4l
  have U5 : Up w w5 := (U4.alloc _).trans h5
  have sX5 := (sX4.up ((Up.refl _).alloc _)).up h5
  have sY5 := (sY4.up ((Up.refl _).alloc _)).up h5
  clear h5 D4 D4c D4f X4 X4c X4f U4 sX4 sY4
  have D5c := D5.cell
  have D5l := D5.lt
  have D5f := D5.frozen
  have X5c := X5.cell
  have X5l := X5.lt
  have X5f := X5.frozen
  have Y5c := Y5.cell
  have Y5l := Y5.lt
  have Y5f := Y5.frozen
  go_wp2_with (fail)
  refine (h7.out _ _ _ _ _ _ _ _ _ (sX5.up ((Up.refl _).alloc _)) (HM.out.up (U5.alloc _))).mono ?_
  rintro e w6 ⟨rfl, h6⟩
  have D6 := (D5.alloc _).up h6
  have X6 := (X5.alloc _).up h6
  have Y6 := (Y5.alloc _).up h6
  have Z6 := (Blk.new w5 25 _).up h6
  have nZD6 := Nat.ne_of_gt D5l
  have nDZ6 := Nat.ne_of_lt D5l
  have nZX6 := Nat.ne_of_gt X5l
  have nXZ6 := Nat.ne_of_lt X5l
  have nZY6 := Nat.ne_of_gt Y5l
  have nYZ6 := Nat.ne_of_lt Y5l
  have U6 : Up w w6 := (U5.alloc _).trans h6
  have sX6 := (sX5.up ((Up.refl _).alloc _)).up h6
  have sY6 := (sY5.up ((Up.refl _).alloc _)).up h6
  have sZ6 := (sZ5.up ((Up.refl _).alloc _)).up h6
  clear h6 D5 D5c D5f X5 X5c X5f Y5 Y5c Y5f U5 sX5 sY5 sZ5
  have D6c := D6.cell
  have D6l := D6.lt
  have D6f := D6.frozen
  have X6c := X6.cell
  have X6l := X6.lt
  have X6f := X6.frozen
  have Y6c := Y6.cell
  have Y6l := Y6.lt
  have Y6f := Y6.frozen
  have Z6c := Z6.cell
  have Z6l := Z6.lt
  have Z6f := Z6.frozen
  go_wp2_with (fail)
  refine (h7.out _ _ _ _ _ _ _ _ _ sY6 (HM.out.up U6)).mono ?_
  rintro e w7 ⟨rfl, h7⟩
  have D7 := D6.up h7
  have X7 := X6.up h7
  have Y7 := Y6.up h7
  have Z7 := Z6.up h7
  have U7 : Up w w7 := U6.trans h7
  have sX7 := sX6.up h7
  have sY7 := sY6.up h7
  have sZ7 := sZ6.up h7
  clear h7 D6 D6c D6f X6 X6c X6f Y6 Y6c Y6f Z6 Z6c Z6f U6 sX6 sY6 sZ6
  have D7c := D7.cell
  have D7l := D7.lt
  have D7f := D7.frozen
  have X7c := X7.cell
  have X7l := X7.lt
  have X7f := X7.frozen
  have Y7c := Y7.cell
  have Y7l := Y7.lt
  have Y7f := Y7.frozen
  have Z7c := Z7.cell
  have Z7l := Z7.lt
  have Z7f := Z7.frozen
  go_wp2_with (fail)
  refine (rright_me _ _ _ _ _ _ sX7.1).mono ?_
  rintro e w8 ⟨rfl, h8⟩
  have D8 := D7.up h8
  have X8 := X7.up h8
  have Y8 := Y7.up h8
  have Z8 := Z7.up h8
  have U8 : Up w w8 := U7.trans h8
  have sX8 := sX7.up h8
  have sY8 := sY7.up h8
  have sZ8 := sZ7.up h8
  clear h8 D7 D7c D7f X7 X7c X7f Y7 Y7c Y7f Z7 Z7c Z7f U7 sX7 sY7 sZ7
  have D8c := D8.cell
  have D8l := D8.lt
  have D8f := D8.frozen
  have X8c := X8.cell
  have X8l := X8.lt
  have X8f := X8.frozen
  have Y8c := Y8.cell
  have Y8l := Y8.lt
  have Y8f := Y8.frozen
  have Z8c := Z8.cell
  have Z8l := Z8.lt
  have Z8f := Z8.frozen
  go_wp2_with (fail)
  refine (rright_me _ _ _ _ _ _ sY8.1).mono ?_
  rintro e w9 ⟨rfl, h9⟩
  have D9 := D8.up h9
  have X9 := X8.up h9
  have Y9 := Y8.up h9
  have Z9 := Z8.up h9
  have U9 : Up w w9 := U8.trans h9
  have sX9 := sX8.up h9
  have sY9 := sY8.up h9
  have sZ9 := sZ8.up h9
  clear h9 D8 D8c D8f X8 X8c X8f Y8 Y8c Y8f Z8 Z8c Z8f U8 sX8 sY8 sZ8
  have D9c := D9.cell
  have D9l := D9.lt
  have D9f := D9.frozen
  have X9c := X9.cell
  have X9l := X9.lt
  have X9f := X9.frozen
  have Y9c := Y9.cell
  have Y9l := Y9.lt
  have Y9f := Y9.frozen
  have Z9c := Z9.cell
  have Z9l := Z9.lt
  have Z9f := Z9.frozen
  go_wp2_with (fail)
  refine (rright_me _ _ _ _ _ _ sZ9.1).mono ?_
  rintro e w10 ⟨rfl, h10⟩
  have D10 := D9.up h10
  have X10 := X9.up h10
  have Y10 := Y9.up h10
  have Z10 := Z9.up h10
  have U10 : Up w w10 := U9.trans h10
  have sX10 := sX9.up h10
  have sY10 := sY9.up h10
  have sZ10 := sZ9.up h10
  clear h10 D9 D9c D9f X9 X9c X9f Y9 Y9c Y9f Z9 Z9c Z9f U9 sX9 sY9 sZ9
  have D10c := D10.cell
  have D10l := D10.lt
  have D10f := D10.frozen
  have X10c := X10.cell
  have X10l := X10.lt
  have X10f := X10.frozen
  have Y10c := Y10.cell
  have Y10l := Y10.lt
  have Y10f := Y10.frozen
  have Z10c := Z10.cell
  have Z10l := Z10.lt
  have Z10f := Z10.frozen
  go_wp2
  go_ret
  exact ⟨rfl, U10⟩

set_option maxHeartbeats 4000000 in
theorem walk_C0 (m : Me) (P Q : Addr) (c d : Nat) (a : Int) (b : Int) (v : Int) (k : Int) (w : World) (hm : Sits w m P Q c d) (hn : m.n ≤ 200) (ha : U64 a) (hb : U64 b) (hv : U64 v) (hk : I64 k) (ta : ¬ m.there a) (hmv : m.mve a b k ≠ 0) :
    Calls Try.prog 9 #[.agg #[.int .i64 m.n, .slice (some P) m.n c, .slice (some Q) m.n d, .int .u64 a, .int .u64 b, .int .u64 v, .int .i64 k]] w fun e w' => e = .returned (.bool true) ∧ Up w w' := by
  have hfew : few m.n m.n m.n = true := by unfold few rt; simp; have := hm.1.1; omega
  have hf := fun w => few_any m.n (some P) (some Q) m.n m.n c d w
  rw [hfew] at hf
  have hf := Lib.hid hf
  have hok := Lib.hid hm.1
  have HM := Lib.hid hm
  clear hfew hm
  have h1 := Lib.hid (fun (W : World) (hS : Sits W m P Q c d) => show Calls Try.prog 15 #[.agg #[.int .i64 m.n, .slice (some P) m.n c, .slice (some Q) m.n d], .int .u64 a, .int .u64 v] W (Gives1 W (m) (.int .i64 2)) from by
    have h := store_any (m) a v P Q c d W hS ha
    rw [show m.lde a = 2 from if_neg ta, show m.st a v = m from if_neg ta] at h
    exact h)
  have h2 := Lib.hid (fun (W : World) (hS : Sits W m P Q c d) => show Calls Try.prog 17 #[.agg #[.int .i64 m.n, .slice (some P) m.n c, .slice (some Q) m.n d], .int .u64 a, .int .u64 v, .int .u64 b] W (Gives2 W (m) (.bool false) (.int .i64 2)) from by
    have h := swap_any (m) a v b P Q c d W hS ha
    rw [show m.sw a v b = m from if_neg (fun q => ta q.1), show m.swb a v = false from decide_eq_false (fun q => ta q.1), show m.lde a = 2 from if_neg ta] at h
    exact h)
  have h3 := Lib.hid (fun (W : World) (hS : Sits W m P Q c d) => show Calls Try.prog 19 #[.agg #[.int .i64 m.n, .slice (some P) m.n c, .slice (some Q) m.n d], .int .u64 a, .int .u64 b, .int .i64 k] W (Gives1 W (m) (.int .i64 (m.mve a b k))) from by
    have h := move_any m a b k P Q c d W hS ha hb hk
    rw [mv_no hmv] at h
    exact h)
  have h7 := Lib.hid (fun (P Q P' Q' : Addr) (c d c' d' : Nat) (W : World) => rsame_self m P Q P' Q' c d c' d' W)
  have hz : (m.mve a b k == 0) = false := beq_eq_false_iff_ne.mpr hmv
  generalize m.mve a b k = z at h3 hz
  clear ta hmv
  go_enter Try.func9, Try.ntmps9
  go_wp2_with (fail)
  refine (shown_any _).mono ?_
  rintro e w1 ⟨rfl, h1⟩
  have D1 := (Blk.new _ 25 _).up h1
  simp at D1
  have U1 : Up w w1 := (((Up.refl w).alloc _).alloc _).trans h1
  clear h1
  have D1c := D1.cell
  have D1l := D1.lt
  have D1f := D1.frozen
  go_wp2_with (fail)
  refine (hf.out _).mono ?_
  rintro e w2 ⟨rfl, h2⟩
  have D2 := D1.up h2
  have U2 : Up w w2 := U1.trans h2
  clear h2 D1 D1c D1f U1
  have D2c := D2.cell
  have D2l := D2.lt
  have D2f := D2.frozen
  go_wp2_with (fail)
  refine (h1.out _ (HM.out.up U2)).mono ?_
  rintro e w3 ⟨PX, QX, cX, dX, rfl, sX3, h3⟩
  have D3 := D2.up h3
  have U3 : Up w w3 := U2.trans h3
  clear h3 D2 D2c D2f U2
  have D3c := D3.cell
  have D3l := D3.lt
  have D3f := D3.frozen
  go_wp2_with (fail)
  refine (h2.out _ (HM.out.up (U3.alloc _))).mono ?_
  rintro e w4 ⟨PY, QY, cY, dY, rfl, sY4, h4⟩
  have D4 := (D3.alloc _).up h4
  have X4 := (Blk.new w3 25 _).up h4
  have nXD4 := Nat.ne_of_gt D3l
  have nDX4 := Nat.ne_of_lt D3l
  have U4 : Up w w4 := (U3.alloc _).trans h4
  have sX4 := (sX3.up ((Up.refl _).alloc _)).up h4
  clear h4 D3 D3c D3f U3 sX3
  have D4c := D4.cell
  have D4l := D4.lt
  have D4f := D4.frozen
  have X4c := X4.cell
  have X4l := X4.lt
  have X4f := X4.frozen
  go_wp2_with (fail)
  refine (h3.out _ (HM.out.up (U4.alloc _))).mono ?_
  rintro e w5 ⟨PZ, QZ, cZ, dZ, rfl, sZ5, h5⟩
  have D5 := (D4.alloc _).up h5
  have X5 := (X4.alloc _).up h5
  have Y5 := (Blk.new w4 25 _).up h5
  have nYD5 := Nat.ne_of_gt D4l
  have nDY5 := Nat.ne_of_lt D4l
  have nYX5 := Nat.ne_of_gt X4l
  have nXY5 := Nat.ne_of_lt X4l
  have U5 : Up w w5 := (U4.alloc _).trans h5
  have sX5 := (sX4.up ((Up.refl _).alloc _)).up h5
  have sY5 := (sY4.up ((Up.refl _).alloc _)).up h5
  clear h5 D4 D4c D4f X4 X4c X4f U4 sX4 sY4
  have D5c := D5.cell
  have D5l := D5.lt
  have D5f := D5.frozen
  have X5c := X5.cell
  have X5l := X5.lt
  have X5f := X5.frozen
  have Y5c := Y5.cell
  have Y5l := Y5.lt
  have Y5f := Y5.frozen
  go_wp2_with (fail)
  refine (h7.out _ _ _ _ _ _ _ _ _ (sX5.up ((Up.refl _).alloc _)) (HM.out.up (U5.alloc _))).mono ?_
  rintro e w6 ⟨rfl, h6⟩
  have D6 := (D5.alloc _).up h6
  have X6 := (X5.alloc _).up h6
  have Y6 := (Y5.alloc _).up h6
  have Z6 := (Blk.new w5 25 _).up h6
  have nZD6 := Nat.ne_of_gt D5l
  have nDZ6 := Nat.ne_of_lt D5l
  have nZX6 := Nat.ne_of_gt X5l
  have nXZ6 := Nat.ne_of_lt X5l
  have nZY6 := Nat.ne_of_gt Y5l
  have nYZ6 := Nat.ne_of_lt Y5l
  have U6 : Up w w6 := (U5.alloc _).trans h6
  have sX6 := (sX5.up ((Up.refl _).alloc _)).up h6
  have sY6 := (sY5.up ((Up.refl _).alloc _)).up h6
  have sZ6 := (sZ5.up ((Up.refl _).alloc _)).up h6
  clear h6 D5 D5c D5f X5 X5c X5f Y5 Y5c Y5f U5 sX5 sY5 sZ5
  have D6c := D6.cell
  have D6l := D6.lt
  have D6f := D6.frozen
  have X6c := X6.cell
  have X6l := X6.lt
  have X6f := X6.frozen
  have Y6c := Y6.cell
  have Y6l := Y6.lt
  have Y6f := Y6.frozen
  have Z6c := Z6.cell
  have Z6l := Z6.lt
  have Z6f := Z6.frozen
  go_wp2_with (fail)
  refine (h7.out _ _ _ _ _ _ _ _ _ sY6 (HM.out.up U6)).mono ?_
  rintro e w7 ⟨rfl, h7⟩
  have D7 := D6.up h7
  have X7 := X6.up h7
  have Y7 := Y6.up h7
  have Z7 := Z6.up h7
  have U7 : Up w w7 := U6.trans h7
  have sX7 := sX6.up h7
  have sY7 := sY6.up h7
  have sZ7 := sZ6.up h7
  clear h7 D6 D6c D6f X6 X6c X6f Y6 Y6c Y6f Z6 Z6c Z6f U6 sX6 sY6 sZ6
  have D7c := D7.cell
  have D7l := D7.lt
  have D7f := D7.frozen
  have X7c := X7.cell
  have X7l := X7.lt
  have X7f := X7.frozen
  have Y7c := Y7.cell
  have Y7l := Y7.lt
  have Y7f := Y7.frozen
  have Z7c := Z7.cell
  have Z7l := Z7.lt
  have Z7f := Z7.frozen
  go_wp2_with (fail)
  refine (h7.out _ _ _ _ _ _ _ _ _ sZ7 (HM.out.up U7)).mono ?_
  rintro e w8 ⟨rfl, h8⟩
  have D8 := D7.up h8
  have X8 := X7.up h8
  have Y8 := Y7.up h8
  have Z8 := Z7.up h8
  have U8 : Up w w8 := U7.trans h8
  have sX8 := sX7.up h8
  have sY8 := sY7.up h8
  have sZ8 := sZ7.up h8
  clear h8 D7 D7c D7f X7 X7c X7f Y7 Y7c Y7f Z7 Z7c Z7f U7 sX7 sY7 sZ7
  have D8c := D8.cell
  have D8l := D8.lt
  have D8f := D8.frozen
  have X8c := X8.cell
  have X8l := X8.lt
  have X8f := X8.frozen
  have Y8c := Y8.cell
  have Y8l := Y8.lt
  have Y8f := Y8.frozen
  have Z8c := Z8.cell
  have Z8l := Z8.lt
  have Z8f := Z8.frozen
  go_wp2_with (fail)
  refine (rright_me _ _ _ _ _ _ sX8.1).mono ?_
  rintro e w9 ⟨rfl, h9⟩
  have D9 := D8.up h9
  have X9 := X8.up h9
  have Y9 := Y8.up h9
  have Z9 := Z8.up h9
  have U9 : Up w w9 := U8.trans h9
  have sX9 := sX8.up h9
  have sY9 := sY8.up h9
  have sZ9 := sZ8.up h9
  clear h9 D8 D8c D8f X8 X8c X8f Y8 Y8c Y8f Z8 Z8c Z8f U8 sX8 sY8 sZ8
  have D9c := D9.cell
  have D9l := D9.lt
  have D9f := D9.frozen
  have X9c := X9.cell
  have X9l := X9.lt
  have X9f := X9.frozen
  have Y9c := Y9.cell
  have Y9l := Y9.lt
  have Y9f := Y9.frozen
  have Z9c := Z9.cell
  have Z9l := Z9.lt
  have Z9f := Z9.frozen
  go_wp2_with (fail)
  refine (rright_me _ _ _ _ _ _ sY9.1).mono ?_
  rintro e w10 ⟨rfl, h10⟩
  have D10 := D9.up h10
  have X10 := X9.up h10
  have Y10 := Y9.up h10
  have Z10 := Z9.up h10
  have U10 : Up w w10 := U9.trans h10
  have sX10 := sX9.up h10
  have sY10 := sY9.up h10
  have sZ10 := sZ9.up h10
  clear h10 D9 D9c D9f X9 X9c X9f Y9 Y9c Y9f Z9 Z9c Z9f U9 sX9 sY9 sZ9
  have D10c := D10.cell
  have D10l := D10.lt
  have D10f := D10.frozen
  have X10c := X10.cell
  have X10l := X10.lt
  have X10f := X10.frozen
  have Y10c := Y10.cell
  have Y10l := Y10.lt
  have Y10f := Y10.frozen
  have Z10c := Z10.cell
  have Z10l := Z10.lt
  have Z10f := Z10.frozen
  go_wp2_with (fail)
  refine (rright_me _ _ _ _ _ _ sZ10.1).mono ?_
  rintro e w11 ⟨rfl, h11⟩
  have D11 := D10.up h11
  have X11 := X10.up h11
  have Y11 := Y10.up h11
  have Z11 := Z10.up h11
  have U11 : Up w w11 := U10.trans h11
  have sX11 := sX10.up h11
  have sY11 := sY10.up h11
  have sZ11 := sZ10.up h11
  clear h11 D10 D10c D10f X10 X10c X10f Y10 Y10c Y10f Z10 Z10c Z10f U10 sX10 sY10 sZ10
  have D11c := D11.cell
  have D11l := D11.lt
  have D11f := D11.frozen
  have X11c := X11.cell
  have X11l := X11.lt
  have X11f := X11.frozen
  have Y11c := Y11.cell
  have Y11l := Y11.lt
  have Y11f := Y11.frozen
  have Z11c := Z11.cell
  have Z11l := Z11.lt
  have Z11f := Z11.frozen
  go_wp2
  go_ret
  exact ⟨rfl, U11⟩

theorem walk (NM : Int) (AM0 AM1 : Option Addr) (nM0 nM1 cM0 cM1 : Nat) (xsM ysM : List Int) (a : Int) (b : Int) (v : Int) (k : Int) (w : World) (hxM : SlOk w AM0 nM0 cM0 xsM) (hyM : SlOk w AM1 nM1 cM1 ysM) (ha : U64 a) (hb : U64 b) (hv : U64 v) (hk : I64 k) :
    Calls Try.prog 9 #[.agg #[.int .i64 NM, .slice AM0 nM0 cM0, .slice AM1 nM1 cM1, .int .u64 a, .int .u64 b, .int .u64 v, .int .i64 k]] w fun e w' => e = .returned (.bool true) ∧ Up w w' := by
  cases hfew : few NM nM0 nM1
  · exact walk_no NM AM0 AM1 nM0 nM1 cM0 cM1 xsM ysM a b v k hfew w
  · obtain ⟨rfl, rfl, h16, h200⟩ := few_is hfew
    obtain ⟨P, Q, rfl, rfl, hm⟩ := sits_of hxM hyM h16 (by omega)
    by_cases hmv : (⟨nM0, xsM, ysM⟩ : Me).mve a b k = 0 <;> by_cases ta : (⟨nM0, xsM, ysM⟩ : Me).there a
    · by_cases hl : (⟨nM0, xsM, ysM⟩ : Me).ld a = v
      · exact walk_A1 ⟨nM0, xsM, ysM⟩ P Q cM0 cM1 a b v k w hm h200 ha hb hv hk ta hl hmv
      · exact walk_B1 ⟨nM0, xsM, ysM⟩ P Q cM0 cM1 a b v k w hm h200 ha hb hv hk ta hl hmv
    · exact walk_C1 ⟨nM0, xsM, ysM⟩ P Q cM0 cM1 a b v k w hm h200 ha hb hv hk ta hmv
    · by_cases hl : (⟨nM0, xsM, ysM⟩ : Me).ld a = v
      · exact walk_A0 ⟨nM0, xsM, ysM⟩ P Q cM0 cM1 a b v k w hm h200 ha hb hv hk ta hl hmv
      · exact walk_B0 ⟨nM0, xsM, ysM⟩ P Q cM0 cM1 a b v k w hm h200 ha hb hv hk ta hl hmv
    · exact walk_C0 ⟨nM0, xsM, ysM⟩ P Q cM0 cM1 a b v k w hm h200 ha hb hv hk ta hmv
theorem cells : Try.prog.cellsOf 65 = 7 := by kernel_rfl
theorem opened {H : Type} {enc : TypeId × Value → H} {w : World} {r : Reach} {b0 : Nat} {vl_ : Value} {d : DataW H} {p : List MemPlace} (hvl_ : Value.okWide Try.prog w r b0 65 vl_) (h_ : DataW.Trod enc Try.prog w 0 (fun _ => true) true 65 vl_ d p) :
    ∃ (NM : Int) (AM0 AM1 : Option Addr) (nM0 nM1 cM0 cM1 : Nat) (xsM ysM : List Int) (a : Int) (b : Int) (v : Int) (k : Int), vl_ = .agg #[.int .i64 NM, .slice AM0 nM0 cM0, .slice AM1 nM1 cM1, .int .u64 a, .int .u64 b, .int .u64 v, .int .i64 k] ∧ I64 NM ∧ SlOk w AM0 nM0 cM0 xsM ∧ SlOk w AM1 nM1 cM1 ysM ∧ U64 a ∧ U64 b ∧ U64 v ∧ I64 k := by
  obtain ⟨⟨l⟩, rfl, hsz⟩ := okWide_struct Try.underlying65 hvl_
  match l, hsz.trans cells with
  | [z0_, z1_, z2_, z3_, z4_, z5_, z6_], _ =>
    obtain ⟨fuel, hf_⟩ := h_
    obtain ⟨ys_, n_, _, _, _, hlen_, hg_⟩ := DataW.trod_struct Try.underlying65 hf_
    have f0_ := hg_ 0 _ rfl
    have f1_ := hg_ 1 _ rfl
    have f2_ := hg_ 2 _ rfl
    have f3_ := hg_ 3 _ rfl
    have f4_ := hg_ 4 _ rfl
    match ys_, hlen_ with
    | [y0_, y1_, y2_, y3_, y4_], _ =>
      change DataW.trod enc Try.prog w 0 (fun _ => true) true n_ 25 (([z0_, z1_, z2_, z3_, z4_, z5_, z6_].drop 0).take (Try.prog.cellsOf 25)) = some y0_ at f0_
      rw [cells_mem] at f0_
      change DataW.trod enc Try.prog w 0 (fun _ => true) true n_ 26 (([z0_, z1_, z2_, z3_, z4_, z5_, z6_].drop 3).take (Try.prog.cellsOf 26)) = some y1_ at f1_
      rw [cells_u64] at f1_
      change DataW.trod enc Try.prog w 0 (fun _ => true) true n_ 26 (([z0_, z1_, z2_, z3_, z4_, z5_, z6_].drop 4).take (Try.prog.cellsOf 26)) = some y2_ at f2_
      rw [cells_u64] at f2_
      change DataW.trod enc Try.prog w 0 (fun _ => true) true n_ 26 (([z0_, z1_, z2_, z3_, z4_, z5_, z6_].drop 5).take (Try.prog.cellsOf 26)) = some y3_ at f3_
      rw [cells_u64] at f3_
      change DataW.trod enc Try.prog w 0 (fun _ => true) true n_ 3 (([z0_, z1_, z2_, z3_, z4_, z5_, z6_].drop 6).take (Try.prog.cellsOf 3)) = some y4_ at f4_
      rw [cells_int] at f4_
      obtain ⟨NM, AM0, AM1, nM0, nM1, cM0, cM1, xsM, ysM, rfl, rfl, rfl, hNM, hxM, hyM⟩ := mem_open (v0 := z0_) (v1 := z1_) (v2 := z2_) f0_
      obtain ⟨a, rfl, ha⟩ := u64_open (v := z3_) f1_
      obtain ⟨b, rfl, hb⟩ := u64_open (v := z4_) f2_
      obtain ⟨v, rfl, hv⟩ := u64_open (v := z5_) f3_
      obtain ⟨k, rfl, hk⟩ := int_open (v := z6_) f4_
      exact ⟨NM, AM0, AM1, nM0, nM1, cM0, cM1, xsM, ysM, a, b, v, k, rfl, hNM, hxM, hyM, ha, hb, hv, hk⟩

theorem own : ownKnob Try.prog.godebug = none := by kernel_rfl
set_option maxRecDepth 100000 in
theorem lifted (os : Os) (started : os.Started) (H : Type) (enc : TypeId × Value → H) :
    ReturnsInHanded {} Try.checked os 9 .any (Rows.arenaRefusesSpec.pre6 enc Try.prog Try.f9 Rows.arenaRefusesRow.domain false) (Rows.arenaRefusesSpec.post enc Try.prog Try.f9 false true false false) := by
  refine returnsInHanded_of_change (C := Try.checked) own started (by kernel_rfl) Try.func9
    (ChangeSpec.witness6 (enc := enc) (C := Try.checked) false ⟨#[], #[.agg #[.int .i64 0, .slice none 0 0, .slice none 0 0, .int .u64 0, .int .u64 0, .int .u64 0, .int .i64 0]], []⟩ 8 (by kernel_rfl) (by kernel_rfl) (by kernel_rfl) (by kernel_rfl)) ?_
  intro W base args ds gs before hval0 hW hcnd _
  have hval : ∀ (j : Nat) t v, Try.f9.params[j]? = some t → args[j]? = some v → Value.okWide Try.prog W .any base t v := hval0
  have hW' := hW
  obtain ⟨p, q, hA0, hV, rfl, hfz, hnd⟩ := hW
  have hA : DataW.TrodAll enc Try.prog W 0 (fun _ => true) true Try.f9.params.toList args.toList ds p := hA0
  rw [Try.params9] at hA hval
  obtain ⟨v0, vs0, d0, ds0, p0, q0, hargs, rfl, rfl, h0, r0⟩ := trodAll_cons hA
  obtain ⟨rfl, rfl, rfl⟩ := trodAll_nil r0
  obtain rfl : args = #[v0] := by cases args; simp_all
  obtain ⟨rfl, rfl⟩ := trodVars_none hV
  have h0k := h0
  obtain ⟨NM, AM0, AM1, nM0, nM1, cM0, cM1, xsM, ysM, a, b, v, k, rfl, hNM, hxM, hyM, ha, hb, hv, hk⟩ := opened (hval 0 65 v0 rfl rfl) h0
  clear hA0 hval0
  simp only [List.append_nil] at hW'
  refine (walk NM AM0 AM1 nM0 nM1 cM0 cM1 xsM ysM a b v k W hxM hyM ha hb hv hk).mono fun e W' ⟨he, hg⟩ => ?_
  subst he
  exact ⟨_, rfl, post_below (pa := p0) (pv := []) hW' (fun _ _ _ => (trodAll_cons_mk (shut_bool Try.underlying4 _) trodAll_mk0))
    (fun sp hsp => by
      have t := trodAll_cons_mk (trod_keeps (sp := sp) (by kernel_rfl) (of_decide_eq_true (by kernel_rfl)) h0k hg (fun x hx => hW'.lt x hx) (fun x hx => hsp x hx)) trodAll_mk0
      rw [List.append_nil] at t
      exact t) (fun _ _ => rfl) (by simp)
    hg (ok_one (by kernel_rfl) rfl (okWide_bool_mk Try.underlying4 _))⟩

theorem over : Rows.arenaRefusesRow.holds Try.pinned (OpenSpec.ofChange Rows.arenaRefusesSpec) :=
  OpenClaim.holds_of_wide 9 Try.f9 rfl rfl rfl rfl rfl rfl rfl ⟨rfl, rfl, rfl, rfl, rfl⟩ rfl rfl rfl rfl rfl (by kernel_rfl) Try.func9 (by kernel_rfl)
    (of_decide_eq_true (by kernel_rfl)) (by unfold Func.isWrapper; first | (rw [if_pos (by decide +kernel)]; kernel_rfl) | (rw [if_neg (by decide +kernel)]; exact ⟨rfl, rfl⟩))
    (fun os started H enc _ => lifted os started H enc)

theorem proved : Rows.ArenaRefusesSaid :=
  over
#print axioms proved
end Go.Proofs.Ytoneandmbnfcoaa.LArenaRefuses
