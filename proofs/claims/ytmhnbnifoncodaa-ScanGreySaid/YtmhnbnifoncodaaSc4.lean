/- One twin gone through (scan.One): contract, where nothing stands there. -/
import Derived.Test.YtmhnbnifoncodaaSc3
namespace Go.Proofs.Ytmhnbnifoncodaa
open Go.ChangeShapes Go.WideShapes Go.ChangeAt Go.RowKit
set_option linter.unusedVariables false
set_option linter.unusedSimpArgs false

theorem ret_one3 {fn : Func} {p u v : Tmp} (h : fn.results = #[.cell p 31, .cell u 3, .cell v 34]) (tmps : Array Value) (w : World) (g gi ge : Nat) (n s a l x y at_ er : Int) (A B : Value)
    (hp : tmps.getD p undef = .pointer (some ⟨g, 0, none⟩)) (hu : tmps.getD u undef = .pointer (some ⟨gi, 0, none⟩)) (hv : tmps.getD v undef = .pointer (some ⟨ge, 0, none⟩))
    (hg : Blk w g 31 (roc n A B s a l x y)) (hi : Blk w gi 3 #[.int .i64 at_]) (he : Blk w ge 34 #[.int .i64 er]) :
    (results fn tmps).run Try.prog w = .ok (.tuple #[rov n A B s a l x y, .int .i64 at_, .int .i64 er]) w := by
  have hp' : tmps[p]?.getD undef = .pointer (some ⟨g, 0, none⟩) := by simpa using hp
  have hu' : tmps[u]?.getD undef = .pointer (some ⟨gi, 0, none⟩) := by simpa using hu
  have hv' : tmps[v]?.getD undef = .pointer (some ⟨ge, 0, none⟩) := by simpa using hv
  have hic := hi.cell
  have hec := he.cell
  have hgc := hg.cell
  have e1 := run_loadVar_row w g 31 31 _ _ _ hg Try.underlying31 rfl (by kernel_rfl)
  have e2 : (loadVar 3 ⟨gi, 0, none⟩).run Try.prog w = .ok (.int .i64 at_) w := by simp [go_sem, hic]
  have e3 : (loadVar 34 ⟨ge, 0, none⟩).run Try.prog w = .ok (.int .i64 er) w := by simp [go_sem, hec]
  simp [results, h, hp', hu', hv', asAddr, e1, e2, e3]

theorem gen_code {P : Program} {C : Code} {Q : Exit → Act → World → Prop} {a : Act} {Y : World → Prop} {X : World} (y : Y X) (h : ∀ W, Y W → C.wp P Q a W) : C.wp P Q a X := h X y
/-- What comes: a room, a place, an error. -/
def OnPost (w : World) (K : Me) (s a' l x y p' er : Int) (e : Ending) (w' : World) : Prop :=
  ∃ (P' Q' : Addr) (c' d' : Nat), e = .returned (.tuple #[rov K.n (sl P' K.n c') (sl Q' K.n d') s a' l x y, .int .i64 p', .int .i64 er]) ∧ Sits w' K P' Q' c' d' ∧ Up w w'

set_option maxRecDepth 100000 in
set_option maxHeartbeats 4000000 in
theorem one_no (m : Me) (s a l x y p er : Int) (P Q : Addr) (c d : Nat) (w : World) (hm : Sits w m P Q c d) (hwf : m.wf) (hr : rgt s a l) (hl : l = m.n) (hx : ste m s a p = er) (he : er ≠ 0) :
    Calls Try.prog 6 #[rov m.n (sl P m.n c) (sl Q m.n d) s a l x y, .int .i64 p] w (OnPost w m s a l x y p er) := by
  have hst := Lib.hid (fun (W : World) (U : Up w W) => stands_any m s a l x y p P Q c d W (hm.up U) hwf hr hl)
  unfold sth at hst
  rw [hx, if_neg he] at hst
  have HM := Lib.hid hm
  have hb : (er != 0) = true := bne_iff_ne.2 he
  clear hm hwf hr hl hx he
  go_enter Try.func6, Try.ntmps6
  go_wp2_with (fail)
  refine calls_at (fun V hV => ?_)
  have U0 : Up w V := by rw [hV]; exact (((((Up.refl w).alloc _).alloc _).alloc _).alloc _).alloc _
  have X0 : Blk V w.heap.size 31 (roc m.n (sl P m.n c) (sl Q m.n d) s a l x y) := by rw [hV]; exact ((((Blk.new' w rfl _ _).alloc _).alloc _).alloc _).alloc _
  have A0 : Blk V (w.heap.size + 1) 3 #[.int .i64 p] := by rw [hV]; exact (((Blk.new' _ (by simp) _ _).alloc _).alloc _).alloc _
  have R0 : Blk V (w.heap.size + 1 + 1) 31 zr := by rw [hV]; exact ((Blk.new' _ (by simp) _ _).alloc _).alloc _
  have I0 : Blk V (w.heap.size + 1 + 1 + 1) 3 #[.int .i64 0] := by rw [hV]; exact (Blk.new' _ (by simp) _ _).alloc _
  have E0 : Blk V (w.heap.size + 1 + 1 + 1 + 1) 34 #[.int .i64 0] := by rw [hV]; exact Blk.new' _ (by simp) _ _
  clear hV
  refine (hst.out V U0).mono ?_
  rintro e w1 ⟨rfl, h1⟩
  have UU := U0.size
  have X1 := X0.up h1
  have A1 := A0.up h1
  have R1 := R0.up h1
  have I1 := I0.up h1
  have E1 := E0.up h1
  have U1 := U0.trans h1
  clear X0 A0 R0 I0 E0 U0 h1 hst
  have X1c := X1.cell
  have A1c := A1.cell
  have R1c := R1.cell
  have R1f := R1.frozen
  have R1l := R1.lt
  have I1c := I1.cell
  have I1f := I1.frozen
  have I1l := I1.lt
  have E1c := E1.cell
  have E1f := E1.frozen
  have E1l := E1.lt
  simp only [roc, zr] at X1c R1c
  go_wp2_with (fail)
  refine gen_code (Y := fun W => (Blk W w.heap.size 31 (roc m.n (sl P m.n c) (sl Q m.n d) s a l x y) ∧ Blk W (w.heap.size + 1) 3 #[.int .i64 p]) ∧ Blk W (w.heap.size + 1 + 1) 31 zr ∧ (Blk W (w.heap.size + 1 + 1 + 1) 3 #[.int .i64 0] ∧ Blk W (w.heap.size + 1 + 1 + 1 + 1) 34 #[.int .i64 0]) ∧ Up w W)
    ⟨⟨X1.alloc _, A1.alloc _⟩, R1.alloc _, ⟨I1.alloc _, E1.alloc _⟩, U1.alloc _⟩ ?_
  rintro W ⟨⟨X2, A2⟩, R2, ⟨I2, E2⟩, U2⟩
  clear X1 A1 R1 I1 E1 X1c A1c R1c R1f R1l I1c I1f I1l E1c E1f E1l
  have n1 : ¬ w.heap.size + 1 + 1 = w.heap.size := by omega
  have n2 : ¬ w.heap.size + 1 + 1 = w.heap.size + 1 := by omega
  have n3 : ¬ w.heap.size + 1 + 1 + 1 = w.heap.size + 1 := by omega
  have n4 : ¬ w.heap.size + 1 + 1 = w.heap.size + 1 + 1 + 1 := by omega
  have n5 : ¬ w.heap.size + 1 + 1 = w.heap.size + 1 + 1 + 1 + 1 := by omega
  have n6 : ¬ w.heap.size + 1 + 1 + 1 = w.heap.size + 1 + 1 + 1 + 1 := by omega
  have n7 : ¬ w.heap.size + 1 + 1 + 1 = w.heap.size + 1 + 1 := by omega
  have n8 : ¬ w.heap.size + 1 + 1 + 1 + 1 = w.heap.size + 1 + 1 + 1 := by omega
  have n9 : ¬ w.heap.size + 1 + 1 + 1 + 1 = w.heap.size + 1 + 1 := by omega
  have l2 : w.heap.size ≤ w.heap.size + 1 + 1 := by omega
  have l3 : w.heap.size ≤ w.heap.size + 1 + 1 + 1 := by omega
  have l4 : w.heap.size ≤ w.heap.size + 1 + 1 + 1 + 1 := by omega
  generalize w.heap.size + 1 + 1 + 1 + 1 = gE at E2 n1 n2 n3 n4 n5 n6 n7 n8 n9 l4 ⊢
  generalize w.heap.size + 1 + 1 + 1 = gI at I2 n1 n2 n3 n4 n5 n6 n7 n8 n9 l3 ⊢
  generalize w.heap.size + 1 + 1 = gR at R2 n1 n2 n3 n4 n5 n6 n7 n8 n9 l2 ⊢
  generalize w.heap.size + 1 = gA at A2 n2 n3 ⊢
  generalize hgX : w.heap.size = gX at X2 n1 l2 l3 l4 ⊢
  have X2c := X2.cell
  have A2c := A2.cell
  have R2c := R2.cell
  have R2f := R2.frozen
  have R2l := R2.lt
  have I2c := I2.cell
  have I2f := I2.frozen
  have I2l := I2.lt
  have E2c := E2.cell
  have E2f := E2.frozen
  have E2l := E2.lt
  simp only [roc, zr] at X2c R2c
  have m1 : gX ≠ gR := fun e => n1 e.symm
  have m2 : gA ≠ gR := fun e => n2 e.symm
  have m3 : gA ≠ gI := fun e => n3 e.symm
  go_region
  all_goals
    go_wp2_with (fail)
    refine bodyPost_ret (ret_one3 rfl _ _ gR gI gE m.n s a l x y p er (sl P m.n c) (sl Q m.n d) rfl rfl rfl ?_ ?_ ?_) rfl ⟨P, Q, c, d, rfl, ?_, ?_⟩
    · exact (((R2.set8 _ _ _ _ _ _ _ _).far n4 _).far n5 _).drew
    · exact (((I2.far8 n7 _ _ _ _ _ _ _ _).set_ 0 _).far n6 _).drew
    · exact (((E2.far8 n9 _ _ _ _ _ _ _ _).far n8 _).set_ 0 _).drew
    · exact ((HM.out.up U2).kp ((((Kp.refl [gR, gI, gE] W).set8 (by simp) _ _ _ _ _ _ _ _).set_ (by simp) _).set_ (by simp) _) ((Tiny.two I2 E2).cons R2 (by simp [zr]))).up (Up.refl _).drew
    · exact (((U2.set8 (by omega) _ _ _ _ _ _ _ _).setCell (by simp only []; omega) _).setCell (by simp only []; omega) _).drew
end Go.Proofs.Ytmhnbnifoncodaa
