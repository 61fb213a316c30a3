/- What is done to make a twin, one after the other (the closures of twin.copied): contracts. -/
import Derived.Test.YtgcpkgogjcgfbaaTw2
namespace Go.Proofs.Ytgcpkgogjcgfbaa
open Go.ChangeShapes Go.WideShapes Go.ChangeAt Go.RowKit
set_option linter.unusedVariables false
set_option linter.unusedSimpArgs false

theorem kne_wdn {m : Me} {A : Int} (h : m.kne A = 0) : m.ate A = 0 ∧ rte (m.att A) (m.atl A) (m.atm A) = 0 ∧ wdn (m.att A) (m.atl A) = m.wn A ∧ 2 ≤ m.wn A ∧ m.wn A ≤ 18 := by
  obtain ⟨h1, h2⟩ := kne_0.1 h
  obtain ⟨e1, e2, e3⟩ := at_of h1
  have h3 := (kne_inn h).2
  have h4 := atl_16 h
  refine ⟨ate_0.2 h1, ?_, ?_, ?_, ?_⟩
  · rw [e1, e2, e3]; exact atok_rte h1
  · unfold wdn Me.wn; rw [if_neg h2]
  · unfold Me.wn; omega
  · unfold Me.wn; omega

set_option maxRecDepth 100000 in
set_option maxHeartbeats 4000000 in
/-- How many words it has. -/
theorem cp_c1 (m : Me) (A : Int) (P Q : Addr) (c d : Nat) (s a l x y v : Int) (Ba Bn : Nat) (w : World) (hm : Sits w m P Q c d) (hA : U64 A) (hwf : m.wf) (hk : m.kne A = 0) (hBa : Blk w Ba 44 #[.int .u64 A]) (hBn : Blk w Bn 3 #[.int .i64 v]) (hne : Ba ≠ Bn) :
    Calls Try.prog 86 #[rov m.n (sl P m.n c) (sl Q m.n d) s a l x y, bx Ba, bx Bn] w fun e w' => e = .returned (.tuple #[rov m.n (sl P m.n c) (sl Q m.n d) s a l x y, .int .i64 0]) ∧ Kp [Bn] w w' ∧ Blk w' Bn 3 #[.int .i64 (m.wn A)] := by
  obtain ⟨k1, k2, k3, k4, k5⟩ := kne_wdn hk
  have hat := Lib.hid (fun (W : World) (U : Up w W) => at_any m A P Q c d W (hm.up U) hA hwf)
  have hwd := Lib.hid (fun W => words_any (m.att A) (m.atl A) (m.atm A) (atm_nn m A) k2 W)
  rw [k1] at hat
  rw [k3] at hwd
  generalize m.att A = t at hat hwd
  generalize m.atl A = k at hat hwd
  generalize m.atm A = mp at hat hwd
  generalize m.wn A = n at hwd k4 k5 ⊢
  clear k1 k2 k3 hk hwf hm
  have hBac := hBa.cell
  have hBal := hBa.lt
  go_enter Try.func86, Try.ntmps86
  go_wp2_with (fail)
  refine calls_at (fun V hV => ?_)
  have U0 : Up w V := by rw [hV]; exact ((Up.refl _).alloc _).alloc _
  have X0 : Blk V w.heap.size 31 (roc m.n (sl P m.n c) (sl Q m.n d) s a l x y) := by rw [hV]; exact (Blk.new' w rfl _ _).alloc _
  have Z0 : Blk V (w.heap.size + 1) 31 zr := by rw [hV]; exact Blk.new' _ (by simp) _ _
  have A0 := hBa.up U0
  have N0 := hBn.up U0
  clear hV
  refine (hat.out V U0).mono ?_
  rintro e w1 ⟨rfl, h1⟩
  have U1 := U0.trans h1
  have X1 := X0.up h1
  have Z1 := Z0.up h1
  have N1 := N0.up h1
  clear h1 X0 Z0 A0 N0 U0 hat
  go_wp2_with (fail)
  refine calls_at (fun V2 hV2 => ?_)
  have U2 : Up w V2 := by rw [hV2]; exact U1.alloc _
  have h12 : Up w1 V2 := by rw [hV2]; exact (Up.refl w1).alloc _
  have X2 := X1.up h12
  have Z2 := Z1.up h12
  have N2 := N1.up h12
  clear hV2 h12 X1 Z1 N1 U1
  refine (hwd.out V2).mono ?_
  rintro e w3 ⟨rfl, h3⟩
  have U3 := U2.trans h3
  have X3 := X2.up h3
  have Z3 := Z2.up h3
  have N3 := N2.up h3
  clear h3 X2 Z2 N2 U2 hwd
  have X3c := X3.cell
  have N3f := N3.frozen
  have N3l := N3.lt
  have Z3c := Z3.cell
  have Z3f := Z3.frozen
  have Z3l := Z3.lt
  have N3c := N3.cell
  have hl := hBn.lt
  have i1 : ¬ w.heap.size = Bn := by omega
  have i2 : ¬ w.heap.size + 1 = Bn := by omega
  have i3 : ¬ Bn = w.heap.size := by omega
  have i4 : ¬ Bn = w.heap.size + 1 := by omega
  simp only [zr, roc] at X3c Z3c
  go_wp2_with (fail)
  refine bodyPost_ret (ret_rv rfl _ _ _ ⟨m.n, P, Q, c, d, s, a, l, x, y⟩ _ rfl ((Z3.far i2 _).set8 _ _ _ _ _ _ _ _) rfl) rfl ?_
  exact ⟨rfl, ((Kp.of_up U3).set_ (by simp) _).own8 (by omega) _ _ _ _ _ _ _ _, (N3.set_ 0 _).far8 i4 _ _ _ _ _ _ _ _⟩

set_option maxRecDepth 100000 in
set_option maxHeartbeats 4000000 in
/-- The words of the twin are taken. -/
theorem cp_c2 (m : Me) (P Q : Addr) (c d : Nat) (s a l x y n v : Int) (Bn Bb : Nat) (w : World) (hr : may s a l n) (hBn : Blk w Bn 3 #[.int .i64 n]) (hBb : Blk w Bb 44 #[.int .u64 v]) (hne : Bn ≠ Bb) :
    Calls Try.prog 88 #[rov m.n (sl P m.n c) (sl Q m.n d) s a l x y, bx Bn, bx Bb] w fun e w' => e = .returned (.tuple #[rov m.n (sl P m.n c) (sl Q m.n d) s (a + n) l x y, .int .i64 0]) ∧ Kp [Bb] w w' ∧ Blk w' Bb 44 #[.int .u64 (adr s a)] := by
  have ht := Lib.hid (fun W => btake_any s a l n W)
  rw [show tka s a l n = a + n from if_pos hr, show tkw s a l n = adr s a from if_pos hr, show btke s a l n = 0 from if_pos hr] at ht
  generalize a + n = a' at ht ⊢
  generalize adr s a = u at ht ⊢
  have hBnc := hBn.cell
  have hBnl := hBn.lt
  clear hr
  go_enter Try.func88, Try.ntmps88
  go_wp2_with (fail)
  refine calls_at (fun V hV => ?_)
  have U0 : Up w V := by rw [hV]; exact ((Up.refl _).alloc _).alloc _
  have X0 : Blk V w.heap.size 31 (roc m.n (sl P m.n c) (sl Q m.n d) s a l x y) := by rw [hV]; exact (Blk.new' w rfl _ _).alloc _
  have Z0 : Blk V (w.heap.size + 1) 31 zr := by rw [hV]; exact Blk.new' _ (by simp) _ _
  clear hV
  refine (ht.out V).mono ?_
  rintro e w3 ⟨rfl, h3⟩
  have U3 := U0.trans h3
  have X3 := X0.up h3
  have Z3 := Z0.up h3
  have N3 := (hBb.up U0).up h3
  clear h3 X0 Z0 U0 ht
  have X3c := X3.cell
  have X3f := X3.frozen
  have X3l := X3.lt
  have N3f := N3.frozen
  have N3l := N3.lt
  have N3c := N3.cell
  have Z3c := Z3.cell
  have Z3f := Z3.frozen
  have Z3l := Z3.lt
  have hl := hBb.lt
  have i1 : ¬ w.heap.size = Bb := by omega
  have i2 : ¬ w.heap.size + 1 = Bb := by omega
  have i3 : ¬ Bb = w.heap.size := by omega
  have i4 : ¬ Bb = w.heap.size + 1 := by omega
  simp only [zr, roc] at X3c Z3c
  go_wp2_with (fail)
  refine bodyPost_ret (ret_rv rfl _ _ _ ⟨m.n, P, Q, c, d, s, a', l, x, y⟩ _ rfl (((((Z3.far (by simp) _).far (by simp) _).far (by simp) _).far i2 _).set8 _ _ _ _ _ _ _ _) rfl) rfl ?_
  exact ⟨rfl, (((((Kp.of_up U3).own (Nat.le_refl _) _).own (Nat.le_refl _) _).own (Nat.le_refl _) _).set_ (by simp) _).own8 (by omega) _ _ _ _ _ _ _ _, ((((N3.far i3 _).far i3 _).far i3 _).set_ 0 _).far8 i4 _ _ _ _ _ _ _ _⟩

set_option maxRecDepth 100000 in
set_option maxHeartbeats 4000000 in
/-- The words of the twin aren't there. -/
theorem cp_c2f (m : Me) (P Q : Addr) (c d : Nat) (s a l x y n v : Int) (Bn Bb : Nat) (w : World) (hr : rgt s a l) (h1 : 1 ≤ n) (h2 : l - a < n) (hBn : Blk w Bn 3 #[.int .i64 n]) (hBb : Blk w Bb 44 #[.int .u64 v]) (hne : Bn ≠ Bb) :
    Calls Try.prog 88 #[rov m.n (sl P m.n c) (sl Q m.n d) s a l x y, bx Bn, bx Bb] w fun e w' => e = .returned (.tuple #[rov m.n (sl P m.n c) (sl Q m.n d) s a l x y, .int .i64 4]) ∧ Kp [Bb] w w' := by
  have ht := Lib.hid (fun W => take_full s a l n hr h1 h2 W)
  have hBnc := hBn.cell
  have hBnl := hBn.lt
  clear hr h1 h2
  go_enter Try.func88, Try.ntmps88
  go_wp2_with (fail)
  refine calls_at (fun V hV => ?_)
  have U0 : Up w V := by rw [hV]; exact ((Up.refl _).alloc _).alloc _
  have X0 : Blk V w.heap.size 31 (roc m.n (sl P m.n c) (sl Q m.n d) s a l x y) := by rw [hV]; exact (Blk.new' w rfl _ _).alloc _
  have Z0 : Blk V (w.heap.size + 1) 31 zr := by rw [hV]; exact Blk.new' _ (by simp) _ _
  clear hV
  refine (ht.out V).mono ?_
  rintro e w3 ⟨rfl, h3⟩
  have U3 := U0.trans h3
  have X3 := X0.up h3
  have Z3 := Z0.up h3
  have N3 := (hBb.up U0).up h3
  clear h3 X0 Z0 U0 ht
  have X3c := X3.cell
  have X3f := X3.frozen
  have X3l := X3.lt
  have N3f := N3.frozen
  have N3l := N3.lt
  have N3c := N3.cell
  have Z3c := Z3.cell
  have Z3f := Z3.frozen
  have Z3l := Z3.lt
  have hl := hBb.lt
  have i1 : ¬ w.heap.size = Bb := by omega
  have i2 : ¬ w.heap.size + 1 = Bb := by omega
  have i3 : ¬ Bb = w.heap.size := by omega
  have i4 : ¬ Bb = w.heap.size + 1 := by omega
  simp only [zr, roc] at X3c Z3c
  go_wp2_with (fail)
  refine bodyPost_ret (ret_rv rfl _ _ _ ⟨m.n, P, Q, c, d, s, a, l, x, y⟩ _ rfl (((((Z3.far (by simp) _).far (by simp) _).far (by simp) _).far i2 _).set8 _ _ _ _ _ _ _ _) rfl) rfl ?_
  exact ⟨rfl, (((((Kp.of_up U3).own (Nat.le_refl _) _).own (Nat.le_refl _) _).own (Nat.le_refl _) _).set_ (by simp) _).own8 (by omega) _ _ _ _ _ _ _ _⟩

set_option maxRecDepth 100000 in
set_option maxHeartbeats 4000000 in
/-- The words are moved. -/
theorem cp_c3 (m : Me) (A b n : Int) (P Q : Addr) (c d : Nat) (s a l x y : Int) (Ba Bb Bn : Nat) (w : World) (hm : Sits w m P Q c d) (hA : U64 A) (hb : U64 b) (h0 : m.mvok A b n) (hBa : Blk w Ba 44 #[.int .u64 A]) (hBb : Blk w Bb 44 #[.int .u64 b]) (hBn : Blk w Bn 3 #[.int .i64 n]) :
    Calls Try.prog 90 #[rov m.n (sl P m.n c) (sl Q m.n d) s a l x y, bx Ba, bx Bb, bx Bn] w fun e w' => ∃ (P' Q' : Addr) (c' d' : Nat), e = .returned (.tuple #[rov (m.mv A b n).n (sl P' (m.mv A b n).n c') (sl Q' (m.mv A b n).n d') s a l x y, .int .i64 0]) ∧ Sits w' (m.mv A b n) P' Q' c' d' ∧ Up w w' ∧ Fr w P' Q' := by
  have ht := Lib.hid (fun (W : World) (U : Up w W) => move_ok m A b n P Q c d W (hm.up U) hA hb h0)
  generalize m.mv A b n = K at ht ⊢
  have hBac := hBa.cell
  have hBal := hBa.lt
  have hBbc := hBb.cell
  have hBbl := hBb.lt
  have hBnc := hBn.cell
  have hBnl := hBn.lt
  clear hm hA hb h0
  go_enter Try.func90, Try.ntmps90
  go_wp2_with (fail)
  refine calls_at (fun V hV => ?_)
  have U0 : Up w V := by rw [hV]; exact ((Up.refl _).alloc _).alloc _
  have X0 : Blk V w.heap.size 31 (roc m.n (sl P m.n c) (sl Q m.n d) s a l x y) := by rw [hV]; exact (Blk.new' w rfl _ _).alloc _
  have Z0 : Blk V (w.heap.size + 1) 31 zr := by rw [hV]; exact Blk.new' _ (by simp) _ _
  clear hV
  refine (ht.out V U0).mono ?_
  rintro e w3 ⟨P', Q', c', d', rfl, sz, h3, hF⟩
  replace hF := Fr.up (a := w) hF U0.size
  have U3 := U0.trans h3
  have X3 := X0.up h3
  have Z3 := Z0.up h3
  clear h3 X0 Z0 U0 ht
  have X3c := X3.cell
  have X3f := X3.frozen
  have X3l := X3.lt
  have Z3c := Z3.cell
  have Z3f := Z3.frozen
  have Z3l := Z3.lt
  simp only [zr, roc] at X3c Z3c
  go_wp2_with (fail)
  refine bodyPost_ret (ret_rv rfl _ _ _ ⟨K.n, P', Q', c', d', s, a, l, x, y⟩ _ rfl ((((Z3.far (by simp) _).far (by simp) _).far (by simp) _).set8 _ _ _ _ _ _ _ _) rfl) rfl ?_
  refine ⟨P', Q', c', d', rfl, ?_, ((((U3.setCell (Nat.le_refl _) _).setCell (Nat.le_refl _) _).setCell (Nat.le_refl _) _).set8 (by omega) _ _ _ _ _ _ _ _), hF⟩
  exact (((sz.far X3 (by simp) _).far (X3.set_ 0 _) (by simp) _).far ((X3.set_ 0 _).set_ 1 _) (by simp) _).far8 (((Z3.far (by simp) _).far (by simp) _).far (by simp) _) _ _ _ _ _ _ _ _

set_option maxRecDepth 100000 in
set_option maxHeartbeats 4000000 in
/-- The twin is joined. -/
theorem cp_c4 (m : Me) (A b : Int) (P Q : Addr) (c d : Nat) (s a l x y : Int) (Ba Bb : Nat) (w : World) (hm : Sits w m P Q c d) (hA : U64 A) (hwf : m.wf) (hk : m.kne A = 0) (h0 : m.ld (A + 1) = 0) (hBa : Blk w Ba 44 #[.int .u64 A]) (hBb : Blk w Bb 44 #[.int .u64 b]) :
    Calls Try.prog 92 #[rov m.n (sl P m.n c) (sl Q m.n d) s a l x y, bx Ba, bx Bb] w fun e w' => ∃ (P' Q' : Addr) (c' d' : Nat), e = .returned (.tuple #[rov (m.st (A + 1) b).n (sl P' (m.st (A + 1) b).n c') (sl Q' (m.st (A + 1) b).n d') s a l x y, .int .i64 0]) ∧ Sits w' (m.st (A + 1) b) P' Q' c' d' ∧ Up w w' ∧ Fr w P' Q' := by
  have ht := Lib.hid (fun (W : World) (U : Up w W) => join_ok m A b P Q c d W (hm.up U) hA hwf hk h0)
  generalize m.st (A + 1) b = K at ht ⊢
  have hBac := hBa.cell
  have hBal := hBa.lt
  have hBbc := hBb.cell
  have hBbl := hBb.lt
  clear hm hA hwf hk h0
  go_enter Try.func92, Try.ntmps92
  go_wp2_with (fail)
  refine calls_at (fun V hV => ?_)
  have U0 : Up w V := by rw [hV]; exact ((Up.refl _).alloc _).alloc _
  have X0 : Blk V w.heap.size 31 (roc m.n (sl P m.n c) (sl Q m.n d) s a l x y) := by rw [hV]; exact (Blk.new' w rfl _ _).alloc _
  have Z0 : Blk V (w.heap.size + 1) 31 zr := by rw [hV]; exact Blk.new' _ (by simp) _ _
  clear hV
  refine (ht.out V U0).mono ?_
  rintro e w3 ⟨P', Q', c', d', rfl, sz, h3, hF⟩
  replace hF := Fr.up (a := w) hF U0.size
  have U3 := U0.trans h3
  have X3 := X0.up h3
  have Z3 := Z0.up h3
  clear h3 X0 Z0 U0 ht
  have X3c := X3.cell
  have X3f := X3.frozen
  have X3l := X3.lt
  have Z3c := Z3.cell
  have Z3f := Z3.frozen
  have Z3l := Z3.lt
  simp only [zr, roc] at X3c Z3c
  go_wp2_with (fail)
  refine bodyPost_ret (ret_rv rfl _ _ _ ⟨K.n, P', Q', c', d', s, a, l, x, y⟩ _ rfl ((((Z3.far (by simp) _).far (by simp) _).far (by simp) _).set8 _ _ _ _ _ _ _ _) rfl) rfl ?_
  refine ⟨P', Q', c', d', rfl, ?_, ((((U3.setCell (Nat.le_refl _) _).setCell (Nat.le_refl _) _).setCell (Nat.le_refl _) _).set8 (by omega) _ _ _ _ _ _ _ _), hF⟩
  exact (((sz.far X3 (by simp) _).far (X3.set_ 0 _) (by simp) _).far ((X3.set_ 0 _).set_ 1 _) (by simp) _).far8 (((Z3.far (by simp) _).far (by simp) _).far (by simp) _) _ _ _ _ _ _ _ _
end Go.Proofs.Ytgcpkgogjcgfbaa
