/- The statement ObjectActs is proved for every input, from contracts of the functions that it calls; no condition is added. -/
import Derived.Test.YtmdejmdfohgpoaaOb12
namespace Go.Proofs.Ytmdejmdfohgpoaa.LObjectActs
open Go.Joins Go.ChangeShapes Go.WideShapes Go.ChangeAt Go.RowKit Go.Deep
set_option linter.unusedVariables false
set_option linter.unusedSimpArgs false

set_option maxRecDepth 100000 in
set_option maxHeartbeats 4000000 in
theorem walk_no (NM : Int) (AM0 AM1 : Option Addr) (nM0 nM1 cM0 cM1 : Nat) (xsM ysM : List Int) (a : Int) (t l mp : Int) (i : Int) (v : Int) (hfew : few NM nM0 nM1 = false) (w : World) :
    Calls Try.prog 3 #[.agg #[.int .i64 NM, .slice AM0 nM0 cM0, .slice AM1 nM1 cM1, .int .u64 a, .int .i64 t, .int .i64 l, .int .u64 mp, .int .i64 i, .int .u64 v]] w (fun e w' => e = .returned (.bool true) ∧ Up w w') := by
  have hf := fun w => few_any NM AM0 AM1 nM0 nM1 cM0 cM1 w
  rw [hfew] at hf
  have hf := Lib.hid hf
  clear hfew
  go_enter Try.func3, Try.ntmps3
  go_wp2_with (fail)
  refine (shown_any _).mono ?_
  rintro e w1 ⟨rfl, h1⟩
  have M1 : Blk w1 (w.heap.size + 1) 25 #[.int .i64 NM, .slice AM0 nM0 cM0, .slice AM1 nM1 cM1] := (((Blk.new' _ (by simp) _ _).alloc _)).up h1
  have H1 : Blk w1 (w.heap.size + 1 + 1) 28 #[.int .i64 t, .int .i64 l, .int .u64 mp] := ((Blk.new' _ (by simp) _ _)).up h1
  have U1 : Up w w1 := (((((Up.refl w).alloc _).alloc _).alloc _)).trans h1
  clear h1
  have M1c := M1.cell
  have M1l := M1.lt
  have H1c := H1.cell
  have H1l := H1.lt
  go_wp2_with (fail)
  refine (hf.out _).mono ?_
  rintro e w2 ⟨rfl, h2⟩
  have M2 := M1.up h2
  have H2 := H1.up h2
  have U2 : Up w w2 := U1.trans h2
  clear h2 M1 M1c M1l H1 H1c H1l U1
  have M2c := M2.cell
  have M2l := M2.lt
  have H2c := H2.cell
  have H2l := H2.lt
  go_wp2
  go_ret
  exact ⟨rfl, U2⟩

set_option maxRecDepth 100000 in
set_option maxHeartbeats 8000000 in
theorem walk_yes (m : Me) (P Q : Addr) (c d : Nat) (a : Int) (t l mp : Int) (i : Int) (v : Int) (w : World) (hm : Sits w m P Q c d) (hn : m.n ≤ 200) (hwf : m.wf) (ha : U64 a) (ht : I64 t) (hl : I64 l) (hmp : U64 mp) (hi : I64 i) (hv : U64 v)  :
    Calls Try.prog 3 #[.agg #[.int .i64 m.n, .slice (some P) m.n c, .slice (some Q) m.n d, .int .u64 a, .int .i64 t, .int .i64 l, .int .u64 mp, .int .i64 i, .int .u64 v]] w (fun e w' => e = .returned (.bool true) ∧ Up w w') := by
  have hfew : few m.n m.n m.n = true := by unfold few rt; simp; have := hm.1.1; omega
  have hf := fun w => few_any m.n (some P) (some Q) m.n m.n c d w
  rw [hfew] at hf
  have hf := Lib.hid hf
  have hok := hm.1
  have HM := Lib.hid hm
  clear hfew hm
  have h1 := Lib.hid (fun (W : World) (hS : Sits W m P Q c d) => show Calls Try.prog 12 #[.agg #[.int .i64 m.n, .slice (some P) m.n c, .slice (some Q) m.n d], .int .u64 a, .agg #[.int .i64 t, .int .i64 l, .int .u64 mp]] W (Gives1 W (m.putm a t l mp) (.int .i64 (m.pute a t l mp))) from put_any m a t l mp P Q c d W hS ha hmp.1)
  have h2 := Lib.hid (fun (W : World) (hS : Sits W m P Q c d) => show Calls Try.prog 13 #[.agg #[.int .i64 m.n, .slice (some P) m.n c, .slice (some Q) m.n d], .int .u64 a, .agg #[.int .i64 t, .int .i64 l, .int .u64 mp]] W (Gives1 W (m.putm a t l mp) (.int .i64 (m.pute a t l mp))) from rput_any m a t l mp P Q c d W hS ha hmp.1)
  have h3 := Lib.hid (fun (W : World) (hS : Sits W m P Q c d) => show Calls Try.prog 14 #[.agg #[.int .i64 m.n, .slice (some P) m.n c, .slice (some Q) m.n d], .int .u64 a] W (fun e w' => e = .returned (.tuple #[hdv (m.att a) (m.atl a) (m.atm a), .int .i64 (m.ate a)]) ∧ Up W w') from at_any m a P Q c d W hS ha hwf)
  have h4 := Lib.hid (fun (W : World) (hS : Sits W m P Q c d) => show Calls Try.prog 15 #[.agg #[.int .i64 m.n, .slice (some P) m.n c, .slice (some Q) m.n d], .int .u64 a] W (fun e w' => e = .returned (.tuple #[hdv (m.att a) (m.atl a) (m.atm a), .int .i64 (m.ate a)]) ∧ Up W w') from rat_any m a P Q c d W hS ha hwf)
  have h5 := Lib.hid (fun (W : World) (hS : Sits W m P Q c d) => show Calls Try.prog 16 #[.agg #[.int .i64 m.n, .slice (some P) m.n c, .slice (some Q) m.n d], .int .u64 a, .int .i64 i] W (fun e w' => e = .returned (.tuple #[.int .u64 (m.getv a i), .bool (m.getb a i), .int .i64 (m.gete a i)]) ∧ Up W w') from get_any m a i P Q c d W hS ha hwf)
  have h6 := Lib.hid (fun (W : World) (hS : Sits W m P Q c d) => show Calls Try.prog 17 #[.agg #[.int .i64 m.n, .slice (some P) m.n c, .slice (some Q) m.n d], .int .u64 a, .int .i64 i] W (fun e w' => e = .returned (.tuple #[.int .u64 (m.getv a i), .bool (m.getb a i), .int .i64 (m.gete a i)]) ∧ Up W w') from rget_any m a i P Q c d W hS ha hwf)
  have h7 := Lib.hid (fun (W : World) (hS : Sits W m P Q c d) => show Calls Try.prog 18 #[.agg #[.int .i64 m.n, .slice (some P) m.n c, .slice (some Q) m.n d], .int .u64 a, .int .i64 i, .int .u64 v] W (Gives1 W (m.setm a i v) (.int .i64 (m.gete a i))) from set_any m a i v P Q c d W hS ha hwf)
  have h8 := Lib.hid (fun (W : World) (hS : Sits W m P Q c d) => show Calls Try.prog 19 #[.agg #[.int .i64 m.n, .slice (some P) m.n c, .slice (some Q) m.n d], .int .u64 a, .int .i64 i, .int .u64 v] W (Gives1 W (m.setm a i v) (.int .i64 (m.gete a i))) from rset_any m a i v P Q c d W hS ha hwf)
  generalize m.putm a t l mp = K at h1 h2
  generalize m.pute a t l mp = z1 at h1 h2
  generalize m.att a = xt at h3 h4
  generalize m.atl a = xl at h3 h4
  generalize m.atm a = xm at h3 h4
  generalize m.ate a = z2 at h3 h4
  generalize m.getv a i = gv at h5 h6
  generalize m.getb a i = gb at h5 h6
  generalize m.setm a i v = S at h7 h8
  generalize m.gete a i = z3 at h5 h6 h7 h8
  have hE : ∀ w, (binOp .eql 28 (.agg #[.int .i64 xt, .int .i64 xl, .int .u64 xm]) (.agg #[.int .i64 xt, .int .i64 xl, .int .u64 xm])).run Try.prog w = .ok (.bool true) w := fun w => by rw [eq_head, hsame_self]
  clear hwf ha ht hl hmp hi hv hn hok
  go_enter Try.func3, Try.ntmps3
  go_wp2_with (fail)
  refine (shown_any _).mono ?_
  rintro e w1 ⟨rfl, h1⟩
  have M1 : Blk w1 (w.heap.size + 1) 25 #[.int .i64 m.n, .slice (some P) m.n c, .slice (some Q) m.n d] := (((Blk.new' _ (by simp) _ _).alloc _)).up h1
  have H1 : Blk w1 (w.heap.size + 1 + 1) 28 #[.int .i64 t, .int .i64 l, .int .u64 mp] := ((Blk.new' _ (by simp) _ _)).up h1
  have U1 : Up w w1 := (((((Up.refl w).alloc _).alloc _).alloc _)).trans h1
  clear h1
  have M1c := M1.cell
  have M1l := M1.lt
  have H1c := H1.cell
  have H1l := H1.lt
  go_wp2_with (fail)
  refine (hf.out _).mono ?_
  rintro e w2 ⟨rfl, h2⟩
  have M2 := M1.up h2
  have H2 := H1.up h2
  have U2 : Up w w2 := U1.trans h2
  clear h2 M1 M1c M1l H1 H1c H1l U1
  have M2c := M2.cell
  have M2l := M2.lt
  have H2c := H2.cell
  have H2l := H2.lt
  go_wp2_with (fail)
  refine (h1.out _ (HM.out.up U2)).mono ?_
  rintro e w3 ⟨PA, QA, cA, dA, rfl, sA3, h3⟩
  have M3 := M2.up h3
  have H3 := H2.up h3
  have U3 : Up w w3 := U2.trans h3
  clear h3 M2 M2c M2l H2 H2c H2l U2
  have M3c := M3.cell
  have M3l := M3.lt
  have H3c := H3.cell
  have H3l := H3.lt
  go_wp2_with (fail)
  refine (h2.out _ (HM.out.up (U3.alloc _))).mono ?_
  rintro e w4 ⟨PB, QB, cB, dB, rfl, sB4, h4⟩
  have M4 := (M3.alloc _).up h4
  have H4 := (H3.alloc _).up h4
  have A4 := (Blk.new w3 25 #[.int .i64 K.n, .slice (some PA) K.n cA, .slice (some QA) K.n dA]).up h4
  have U4 : Up w w4 := (U3.alloc _).trans h4
  have sA4 := (sA3.up ((Up.refl _).alloc _)).up h4
  clear h4 M3 M3c M3l H3 H3c H3l U3 sA3
  have M4c := M4.cell
  have M4l := M4.lt
  have H4c := H4.cell
  have H4l := H4.lt
  have A4c := A4.cell
  have A4l := A4.lt
  go_wp2_with (fail)
  refine (h3.out _ (HM.out.up (U4.alloc _))).mono ?_
  rintro e w5 ⟨rfl, h5⟩
  have M5 := (M4.alloc _).up h5
  have H5 := (H4.alloc _).up h5
  have A5 := (A4.alloc _).up h5
  have B5 := (Blk.new w4 25 #[.int .i64 K.n, .slice (some PB) K.n cB, .slice (some QB) K.n dB]).up h5
  have U5 : Up w w5 := (U4.alloc _).trans h5
  have sA5 := (sA4.up ((Up.refl _).alloc _)).up h5
  have sB5 := (sB4.up ((Up.refl _).alloc _)).up h5
  clear h5 M4 M4c M4l H4 H4c H4l A4 A4c A4l U4 sA4 sB4
  have M5c := M5.cell
  have M5l := M5.lt
  have H5c := H5.cell
  have H5l := H5.lt
  have A5c := A5.cell
  have A5l := A5.lt
  have B5c := B5.cell
  have B5l := B5.lt
  go_wp2_with (fail)
  refine (h4.out _ (HM.out.up (U5.alloc _))).mono ?_
  rintro e w6 ⟨rfl, h6⟩
  have M6 := (M5.alloc _).up h6
  have H6 := (H5.alloc _).up h6
  have A6 := (A5.alloc _).up h6
  have B6 := (B5.alloc _).up h6
  have X6 := (Blk.new w5 28 #[.int .i64 xt, .int .i64 xl, .int .u64 xm]).up h6
  have U6 : Up w w6 := (U5.alloc _).trans h6
  have sA6 := (sA5.up ((Up.refl _).alloc _)).up h6
  have sB6 := (sB5.up ((Up.refl _).alloc _)).up h6
  clear h6 M5 M5c M5l H5 H5c H5l A5 A5c A5l B5 B5c B5l U5 sA5 sB5
  have M6c := M6.cell
  have M6l := M6.lt
  have H6c := H6.cell
  have H6l := H6.lt
  have A6c := A6.cell
  have A6l := A6.lt
  have B6c := B6.cell
  have B6l := B6.lt
  have X6c := X6.cell
  have X6l := X6.lt
  go_wp2_with (fail)
  refine (h5.out _ (HM.out.up (U6.alloc _))).mono ?_
  rintro e w7 ⟨rfl, h7⟩
  have M7 := (M6.alloc _).up h7
  have H7 := (H6.alloc _).up h7
  have A7 := (A6.alloc _).up h7
  have B7 := (B6.alloc _).up h7
  have X7 := (X6.alloc _).up h7
  have Y7 := (Blk.new w6 28 #[.int .i64 xt, .int .i64 xl, .int .u64 xm]).up h7
  have U7 : Up w w7 := (U6.alloc _).trans h7
  have sA7 := (sA6.up ((Up.refl _).alloc _)).up h7
  have sB7 := (sB6.up ((Up.refl _).alloc _)).up h7
  clear h7 M6 M6c M6l H6 H6c H6l A6 A6c A6l B6 B6c B6l X6 X6c X6l U6 sA6 sB6
  have M7c := M7.cell
  have M7l := M7.lt
  have H7c := H7.cell
  have H7l := H7.lt
  have A7c := A7.cell
  have A7l := A7.lt
  have B7c := B7.cell
  have B7l := B7.lt
  have X7c := X7.cell
  have X7l := X7.lt
  have Y7c := Y7.cell
  have Y7l := Y7.lt
  go_wp2_with (fail)
  refine (h6.out _ (HM.out.up U7)).mono ?_
  rintro e w8 ⟨rfl, h8⟩
  have M8 := M7.up h8
  have H8 := H7.up h8
  have A8 := A7.up h8
  have B8 := B7.up h8
  have X8 := X7.up h8
  have Y8 := Y7.up h8
  have U8 : Up w w8 := U7.trans h8
  have sA8 := sA7.up h8
  have sB8 := sB7.up h8
  clear h8 M7 M7c M7l H7 H7c H7l A7 A7c A7l B7 B7c B7l X7 X7c X7l Y7 Y7c Y7l U7 sA7 sB7
  have M8c := M8.cell
  have M8l := M8.lt
  have H8c := H8.cell
  have H8l := H8.lt
  have A8c := A8.cell
  have A8l := A8.lt
  have B8c := B8.cell
  have B8l := B8.lt
  have X8c := X8.cell
  have X8l := X8.lt
  have Y8c := Y8.cell
  have Y8l := Y8.lt
  go_wp2_with (fail)
  refine (h7.out _ (HM.out.up U8)).mono ?_
  rintro e w9 ⟨PC, QC, cC, dC, rfl, sC9, h9⟩
  have M9 := M8.up h9
  have H9 := H8.up h9
  have A9 := A8.up h9
  have B9 := B8.up h9
  have X9 := X8.up h9
  have Y9 := Y8.up h9
  have U9 : Up w w9 := U8.trans h9
  have sA9 := sA8.up h9
  have sB9 := sB8.up h9
  clear h9 M8 M8c M8l H8 H8c H8l A8 A8c A8l B8 B8c B8l X8 X8c X8l Y8 Y8c Y8l U8 sA8 sB8
  have M9c := M9.cell
  have M9l := M9.lt
  have H9c := H9.cell
  have H9l := H9.lt
  have A9c := A9.cell
  have A9l := A9.lt
  have B9c := B9.cell
  have B9l := B9.lt
  have X9c := X9.cell
  have X9l := X9.lt
  have Y9c := Y9.cell
  have Y9l := Y9.lt
  go_wp2_with (fail)
  refine (h8.out _ (HM.out.up (U9.alloc _))).mono ?_
  rintro e w10 ⟨PD, QD, cD, dD, rfl, sD10, h10⟩
  have M10 := (M9.alloc _).up h10
  have H10 := (H9.alloc _).up h10
  have A10 := (A9.alloc _).up h10
  have B10 := (B9.alloc _).up h10
  have X10 := (X9.alloc _).up h10
  have Y10 := (Y9.alloc _).up h10
  have C10 := (Blk.new w9 25 #[.int .i64 S.n, .slice (some PC) S.n cC, .slice (some QC) S.n dC]).up h10
  have U10 : Up w w10 := (U9.alloc _).trans h10
  have sA10 := (sA9.up ((Up.refl _).alloc _)).up h10
  have sB10 := (sB9.up ((Up.refl _).alloc _)).up h10
  have sC10 := (sC9.up ((Up.refl _).alloc _)).up h10
  clear h10 M9 M9c M9l H9 H9c H9l A9 A9c A9l B9 B9c B9l X9 X9c X9l Y9 Y9c Y9l U9 sA9 sB9 sC9
  have M10c := M10.cell
  have M10l := M10.lt
  have H10c := H10.cell
  have H10l := H10.lt
  have A10c := A10.cell
  have A10l := A10.lt
  have B10c := B10.cell
  have B10l := B10.lt
  have X10c := X10.cell
  have X10l := X10.lt
  have Y10c := Y10.cell
  have Y10l := Y10.lt
  have C10c := C10.cell
  have C10l := C10.lt
  go_wp2_with (fail)
  refine (rsame_self _ _ _ _ _ _ _ _ _ _ (sA10.up ((Up.refl _).alloc _)) (sB10.up ((Up.refl _).alloc _))).mono ?_
  rintro e w11 ⟨rfl, h11⟩
  have M11 := (M10.alloc _).up h11
  have H11 := (H10.alloc _).up h11
  have A11 := (A10.alloc _).up h11
  have B11 := (B10.alloc _).up h11
  have X11 := (X10.alloc _).up h11
  have Y11 := (Y10.alloc _).up h11
  have C11 := (C10.alloc _).up h11
  have D11 := (Blk.new w10 25 #[.int .i64 S.n, .slice (some PD) S.n cD, .slice (some QD) S.n dD]).up h11
  have U11 : Up w w11 := (U10.alloc _).trans h11
  have sA11 := (sA10.up ((Up.refl _).alloc _)).up h11
  have sB11 := (sB10.up ((Up.refl _).alloc _)).up h11
  have sC11 := (sC10.up ((Up.refl _).alloc _)).up h11
  have sD11 := (sD10.up ((Up.refl _).alloc _)).up h11
  clear h11 M10 M10c M10l H10 H10c H10l A10 A10c A10l B10 B10c B10l X10 X10c X10l Y10 Y10c Y10l C10 C10c C10l U10 sA10 sB10 sC10 sD10
  have M11c := M11.cell
  have M11l := M11.lt
  have H11c := H11.cell
  have H11l := H11.lt
  have A11c := A11.cell
  have A11l := A11.lt
  have B11c := B11.cell
  have B11l := B11.lt
  have X11c := X11.cell
  have X11l := X11.lt
  have Y11c := Y11.cell
  have Y11l := Y11.lt
  have C11c := C11.cell
  have C11l := C11.lt
  have D11c := D11.cell
  have D11l := D11.lt
  go_wp2_with (fail)
  refine (rsame_self _ _ _ _ _ _ _ _ _ _ sC11 sD11).mono ?_
  rintro e w12 ⟨rfl, h12⟩
  have M12 := M11.up h12
  have H12 := H11.up h12
  have A12 := A11.up h12
  have B12 := B11.up h12
  have X12 := X11.up h12
  have Y12 := Y11.up h12
  have C12 := C11.up h12
  have D12 := D11.up h12
  have U12 : Up w w12 := U11.trans h12
  have sA12 := sA11.up h12
  have sB12 := sB11.up h12
  have sC12 := sC11.up h12
  have sD12 := sD11.up h12
  clear h12 M11 M11c M11l H11 H11c H11l A11 A11c A11l B11 B11c B11l X11 X11c X11l Y11 Y11c Y11l C11 C11c C11l D11 D11c D11l U11 sA11 sB11 sC11 sD11
  have M12c := M12.cell
  have M12l := M12.lt
  have H12c := H12.cell
  have H12l := H12.lt
  have A12c := A12.cell
  have A12l := A12.lt
  have B12c := B12.cell
  have B12l := B12.lt
  have X12c := X12.cell
  have X12l := X12.lt
  have Y12c := Y12.cell
  have Y12l := Y12.lt
  have C12c := C12.cell
  have C12l := C12.lt
  have D12c := D12.cell
  have D12l := D12.lt
  go_wp2
  go_ret
  exact ⟨rfl, U12⟩

theorem walk (NM : Int) (AM0 AM1 : Option Addr) (nM0 nM1 cM0 cM1 : Nat) (xsM ysM : List Int) (a : Int) (t l mp : Int) (i : Int) (v : Int) (w : World) (hxM : SlOk w AM0 nM0 cM0 xsM) (hyM : SlOk w AM1 nM1 cM1 ysM) (ha : U64 a) (ht : I64 t) (hl : I64 l) (hmp : U64 mp) (hi : I64 i) (hv : U64 v) :
    Calls Try.prog 3 #[.agg #[.int .i64 NM, .slice AM0 nM0 cM0, .slice AM1 nM1 cM1, .int .u64 a, .int .i64 t, .int .i64 l, .int .u64 mp, .int .i64 i, .int .u64 v]] w (fun e w' => e = .returned (.bool true) ∧ Up w w') := by
  cases hfew : few NM nM0 nM1
  · exact walk_no NM AM0 AM1 nM0 nM1 cM0 cM1 xsM ysM a t l mp i v hfew w
  · obtain ⟨rfl, rfl, h16, h200⟩ := few_is hfew
    obtain ⟨P, Q, rfl, rfl, hm⟩ := sits_of hxM hyM h16 (by omega)
    have hwf := sits_wf hxM hyM
    exact walk_yes ⟨nM0, xsM, ysM⟩ P Q cM0 cM1 a t l mp i v w hm h200 hwf ha ht hl hmp hi hv
theorem cells : Try.prog.cellsOf 30 = 9 := by kernel_rfl
set_option maxRecDepth 100000 in
theorem opened {H : Type} {enc : TypeId × Value → H} {w : World} {r : Reach} {b0 : Nat} {vl_ : Value} {d : DataW H} {p : List MemPlace} (hvl_ : Value.okWide Try.prog w r b0 30 vl_) (h_ : DataW.Trod enc Try.prog w 0 (fun _ => true) true 30 vl_ d p) :
    ∃ (NM : Int) (AM0 AM1 : Option Addr) (nM0 nM1 cM0 cM1 : Nat) (xsM ysM : List Int) (a : Int) (t l mp : Int) (i : Int) (v : Int), vl_ = .agg #[.int .i64 NM, .slice AM0 nM0 cM0, .slice AM1 nM1 cM1, .int .u64 a, .int .i64 t, .int .i64 l, .int .u64 mp, .int .i64 i, .int .u64 v] ∧ I64 NM ∧ SlOk w AM0 nM0 cM0 xsM ∧ SlOk w AM1 nM1 cM1 ysM ∧ U64 a ∧ I64 t ∧ I64 l ∧ U64 mp ∧ I64 i ∧ U64 v := by
  obtain ⟨⟨l⟩, rfl, hsz⟩ := okWide_struct Try.underlying30 hvl_
  match l, hsz.trans cells with
  | [z0_, z1_, z2_, z3_, z4_, z5_, z6_, z7_, z8_], _ =>
    obtain ⟨fuel, hf_⟩ := h_
    obtain ⟨ys_, n_, _, _, _, hlen_, hg_⟩ := DataW.trod_struct Try.underlying30 hf_
    have f0_ := hg_ 0 _ rfl
    have f1_ := hg_ 1 _ rfl
    have f2_ := hg_ 2 _ rfl
    have f3_ := hg_ 3 _ rfl
    have f4_ := hg_ 4 _ rfl
    match ys_, hlen_ with
    | [y0_, y1_, y2_, y3_, y4_], _ =>
      change DataW.trod enc Try.prog w 0 (fun _ => true) true n_ 25 (([z0_, z1_, z2_, z3_, z4_, z5_, z6_, z7_, z8_].drop 0).take (Try.prog.cellsOf 25)) = some y0_ at f0_
      rw [cells_mem] at f0_
      change DataW.trod enc Try.prog w 0 (fun _ => true) true n_ 26 (([z0_, z1_, z2_, z3_, z4_, z5_, z6_, z7_, z8_].drop 3).take (Try.prog.cellsOf 26)) = some y1_ at f1_
      rw [cells_u64] at f1_
      change DataW.trod enc Try.prog w 0 (fun _ => true) true n_ 28 (([z0_, z1_, z2_, z3_, z4_, z5_, z6_, z7_, z8_].drop 4).take (Try.prog.cellsOf 28)) = some y2_ at f2_
      rw [cells_head] at f2_
      change DataW.trod enc Try.prog w 0 (fun _ => true) true n_ 3 (([z0_, z1_, z2_, z3_, z4_, z5_, z6_, z7_, z8_].drop 7).take (Try.prog.cellsOf 3)) = some y3_ at f3_
      rw [cells_int] at f3_
      change DataW.trod enc Try.prog w 0 (fun _ => true) true n_ 26 (([z0_, z1_, z2_, z3_, z4_, z5_, z6_, z7_, z8_].drop 8).take (Try.prog.cellsOf 26)) = some y4_ at f4_
      rw [cells_u64] at f4_
      obtain ⟨NM, AM0, AM1, nM0, nM1, cM0, cM1, xsM, ysM, rfl, rfl, rfl, hNM, hxM, hyM⟩ := mem_open (v0 := z0_) (v1 := z1_) (v2 := z2_) f0_
      obtain ⟨a, rfl, ha⟩ := u64_open (v := z3_) f1_
      obtain ⟨t, l, mp, rfl, rfl, rfl, ht, hl, hmp⟩ := head_cells (v0 := z4_) (v1 := z5_) (v2 := z6_) f2_
      obtain ⟨i, rfl, hi⟩ := int_open (v := z7_) f3_
      obtain ⟨v, rfl, hv⟩ := u64_open (v := z8_) f4_
      exact ⟨NM, AM0, AM1, nM0, nM1, cM0, cM1, xsM, ysM, a, t, l, mp, i, v, rfl, hNM, hxM, hyM, ha, ht, hl, hmp, hi, hv⟩

theorem own : ownKnob Try.prog.godebug = none := by kernel_rfl
set_option maxRecDepth 100000 in
theorem lifted (os : Os) (started : os.Started) (H : Type) (enc : TypeId × Value → H) :
    ReturnsInHanded {} Try.checked os 3 .any (Rows.objectActsSpec.pre6 enc Try.prog Try.f3 Rows.objectActsRow.domain false) (Rows.objectActsSpec.post enc Try.prog Try.f3 false true false false) := by
  refine returnsInHanded_of_change (C := Try.checked) own started (by kernel_rfl) Try.func3
    (ChangeSpec.witness6 (enc := enc) (C := Try.checked) false ⟨#[], #[.agg #[.int .i64 0, .slice none 0 0, .slice none 0 0, .int .u64 0, .int .i64 0, .int .i64 0, .int .u64 0, .int .i64 0, .int .u64 0]], []⟩ 8 (by kernel_rfl) (by kernel_rfl) (by kernel_rfl) (by kernel_rfl)) ?_
  intro W base args ds gs before hval0 hW hcnd _
  have hval : ∀ (j : Nat) t v, Try.f3.params[j]? = some t → args[j]? = some v → Value.okWide Try.prog W .any base t v := hval0
  have hW' := hW
  obtain ⟨p, q, hA0, hV, rfl, hfz, hnd⟩ := hW
  have hA : DataW.TrodAll enc Try.prog W 0 (fun _ => true) true Try.f3.params.toList args.toList ds p := hA0
  rw [Try.params3] at hA hval
  obtain ⟨v0, vs0, d0, ds0, p0, q0, hargs, rfl, rfl, h0, r0⟩ := trodAll_cons hA
  obtain ⟨rfl, rfl, rfl⟩ := trodAll_nil r0
  obtain rfl : args = #[v0] := by cases args; simp_all
  obtain ⟨rfl, rfl⟩ := trodVars_none hV
  have h0k := h0
  obtain ⟨NM, AM0, AM1, nM0, nM1, cM0, cM1, xsM, ysM, a, t, l, mp, i, v, rfl, hNM, hxM, hyM, ha, ht, hl, hmp, hi, hv⟩ := opened (hval 0 30 v0 rfl rfl) h0
  clear hA0 hval0
  simp only [List.append_nil] at hW'
  refine (walk NM AM0 AM1 nM0 nM1 cM0 cM1 xsM ysM a t l mp i v W hxM hyM ha ht hl hmp hi hv).mono fun e W' ⟨he, hg⟩ => ?_
  subst he
  exact ⟨_, rfl, post_below (pa := p0) (pv := []) hW' (fun _ _ _ => (trodAll_cons_mk (shut_bool Try.underlying4 _) trodAll_mk0))
    (fun sp hsp => by
      have t := trodAll_cons_mk (trod_keeps (sp := sp) (by kernel_rfl) (of_decide_eq_true (by kernel_rfl)) h0k hg (fun x hx => hW'.lt x hx) (fun x hx => hsp x hx)) trodAll_mk0
      rw [List.append_nil] at t
      exact t) (fun _ _ => rfl) (by simp)
    hg (ok_one (by kernel_rfl) rfl (okWide_bool_mk Try.underlying4 _))⟩

set_option maxRecDepth 100000 in
theorem over : Rows.objectActsRow.holds Try.pinned (OpenSpec.ofChange Rows.objectActsSpec) :=
  OpenClaim.holds_of_wide 3 Try.f3 rfl rfl rfl rfl rfl rfl rfl ⟨rfl, rfl, rfl, rfl, rfl⟩ rfl rfl rfl rfl rfl (by kernel_rfl) Try.func3 (by kernel_rfl)
    (of_decide_eq_true (by kernel_rfl)) (by unfold Func.isWrapper; first | (rw [if_pos (by decide +kernel)]; kernel_rfl) | (rw [if_neg (by decide +kernel)]; exact ⟨rfl, rfl⟩))
    (fun os started H enc _ => lifted os started H enc)

theorem proved : Rows.ObjectActsSaid :=
  over
#print axioms proved
end Go.Proofs.Ytmdejmdfohgpoaa.LObjectActs
