/- A field of an object (object.Get, Set): contracts of the calls. -/
import Derived.Test.YtgcpkgogjcgfbaaOb3
namespace Go.Proofs.Ytgcpkgogjcgfbaa
open Go.ChangeShapes Go.WideShapes Go.ChangeAt Go.RowKit
set_option linter.unusedVariables false
set_option linter.unusedSimpArgs false

/-- What the row of Get comes to. -/
def GetPhi (m : Me) (a i : Int) (Bh Bv : Nat) (x : Int) (w' : World) : Prop := x = m.gete a i ∧ (x = 0 → Blk w' Bh 55 (hcs (m.att a) (m.atl a) (m.atm a)) ∧ Blk w' Bv 44 #[.int .u64 (m.ld (a + 2 + i))])
theorem get_run (m : Me) (a i : Int) (P Q : Addr) (c d Bm Ba Bi Bh Bv : Nat) (w : World) (ha : U64 a) (hwf : m.wf) (h1 : Bm < Ba) (h2 : Ba < Bi) (h3 : Bi < Bh) (h4 : Bh < Bv)
    (hM : Box w Bm m P Q c d) (hA : Blk w Ba 44 #[.int .u64 a]) (hI : Blk w Bi 3 #[.int .i64 i]) (hH : Blk w Bh 55 (hcs 0 0 0)) (hV : Blk w Bv 44 #[.int .u64 0]) :
    Run [Bh, Bv] (GetPhi m a i Bh Bv) [(52, #[bx Bm, bx Ba, bx Bh]), (54, #[bx Bh, bx Bi]), (56, #[bx Bm, bx Ba, bx Bi, bx Bv])] w := by
  refine ⟨Try.call52, fun w0 u0 => ?_⟩
  refine (get_c1 m a 0 0 0 P Q c d Bm Ba Bh w0 ha hwf (hM.up u0) (hA.up u0) (hH.up u0)).mono ?_
  rintro e w1 ⟨rfl, k1, H1⟩
  have T1 := Tiny.one (hH.up u0)
  have M1 := (hM.up u0).kp k1 (by simp; omega) T1
  have A1 := (hA.up u0).kp k1 (by simp; omega)
  have I1 := (hI.up u0).kp k1 (by simp; omega)
  have V1 := (hV.up u0).kp k1 (by simp; omega)
  refine ⟨_, rfl, k1.mono (by simp), fun hx w2 u2 => ⟨(if_neg hx).symm, fun q => absurd q hx⟩, fun hx => ?_⟩
  refine ⟨Try.call54, fun w2 u2 => ?_⟩
  refine (get_c2 _ _ _ i Bh Bi w2 (H1.up u2) (I1.up u2)).mono ?_
  rintro e w3 ⟨rfl, u3⟩
  refine ⟨_, rfl, .of_up u3, fun hy w4 u4 => ⟨(if_pos hx).symm, fun q => absurd q hy⟩, fun hy => ?_⟩
  have hok : m.fok a i := ⟨hx, by
    cases h : hasb (m.atl a) i
    · rw [h] at hy; cases hy
    · rfl⟩
  obtain ⟨ht, i0, i1, b0, b1⟩ := fok_off hM.2.1.2.1 hok
  refine ⟨Try.call56, fun w4 u4 => ?_⟩
  refine (get_c3 m a i 0 P Q c d Bm Ba Bi Bv w4 ha i0 b1 (by omega) (by omega) (by omega) (((M1.up u2).up u3).up u4) (((A1.up u2).up u3).up u4) (((I1.up u2).up u3).up u4) (((V1.up u2).up u3).up u4)).mono ?_
  rintro e w5 ⟨rfl, k5, V5⟩
  have H5 := (((H1.up u2).up u3).up u4).kp k5 (by simp; omega)
  have hz : m.lde (a + 2 + i) = 0 := if_pos ht
  refine ⟨_, rfl, k5.mono (by simp), fun hq => absurd hz hq, fun _ w6 u6 => ⟨(gete_0.2 hok).symm, fun _ => ⟨H5.up u6, V5.up u6⟩⟩⟩

set_option maxHeartbeats 2000000 in
theorem get_any (m : Me) (a i : Int) (P Q : Addr) (c d : Nat) (w : World) (hm : Sits w m P Q c d) (ha : U64 a) (hwf : m.wf) :
    Calls Try.prog 31 #[.agg #[.int .i64 m.n, .slice (some P) m.n c, .slice (some Q) m.n d], .int .u64 a, .int .i64 i] w fun e w' => e = .returned (.tuple #[.int .u64 (m.getv a i), .bool (m.getb a i), .int .i64 (m.gete a i)]) ∧ Up w w' := by
  have HR := Lib.hid (get_run m a i P Q c d)
  have HM := Lib.hid hm
  have HW := Lib.hid hwf
  have HA := Lib.hid ha
  clear hm hwf ha
  go_enter Try.func31, Try.ntmps31
  go_wp2_with (fail)
  refine calls_at (fun Wz0 hWz0 => ?_)
  have M0 : Blk Wz0 (w.heap.size) 25 #[.int .i64 m.n, .slice (some P) m.n c, .slice (some Q) m.n d] := by rw [hWz0]; exact ((((((Blk.new' _ (by simp) _ _).alloc _).alloc _).alloc _).alloc _).alloc _)
  have A0 : Blk Wz0 (w.heap.size + 1) 44 #[.int .u64 a] := by rw [hWz0]; exact (((((Blk.new' _ (by simp) _ _).alloc _).alloc _).alloc _).alloc _)
  have I0 : Blk Wz0 (w.heap.size + 1 + 1) 3 #[.int .i64 i] := by rw [hWz0]; exact ((((Blk.new' _ (by simp) _ _).alloc _).alloc _).alloc _)
  have H0 : Blk Wz0 (w.heap.size + 1 + 1 + 1) 55 #[.int .i64 0, .int .i64 0, .int .u64 0] := by rw [hWz0]; exact (((Blk.new' _ (by simp) _ _).alloc _).alloc _)
  have V0 : Blk Wz0 (w.heap.size + 1 + 1 + 1 + 1) 44 #[.int .u64 0] := by rw [hWz0]; exact ((Blk.new' _ (by simp) _ _).alloc _)
  have G0 : Blk Wz0 (w.heap.size + 1 + 1 + 1 + 1 + 1) 100 (List.map fnv [(52, #[bx (w.heap.size), bx (w.heap.size + 1), bx (w.heap.size + 1 + 1 + 1)]), (54, #[bx (w.heap.size + 1 + 1 + 1), bx (w.heap.size + 1 + 1)]), (56, #[bx (w.heap.size), bx (w.heap.size + 1), bx (w.heap.size + 1 + 1), bx (w.heap.size + 1 + 1 + 1 + 1)])]).toArray := by rw [hWz0]; exact Blk.new' _ (by simp) _ _
  have U0 : Up w Wz0 := by rw [hWz0]; exact (((((((Up.refl w).alloc _).alloc _).alloc _).alloc _).alloc _).alloc _)
  clear hWz0
  refine (do_any [(w.heap.size + 1 + 1 + 1), (w.heap.size + 1 + 1 + 1 + 1)] (GetPhi m a i (w.heap.size + 1 + 1 + 1) (w.heap.size + 1 + 1 + 1 + 1)) _ (w.heap.size + 1 + 1 + 1 + 1 + 1) Wz0 (by simp) (by simp <;> omega) G0 (HR.out _ _ _ _ _ _ HA.out HW.out (by omega) (by omega) (by omega) (by omega) ⟨M0, HM.out.up U0⟩ A0 I0 H0 V0)).mono ?_
  clear G0 M0 A0 H0 V0
  rintro e w1 ⟨x, rfl, k1, hx, hH⟩
  have HX := Lib.hid hx
  have I1 := I0.kp k1 (by simp <;> omega)
  have U1 := U0.kp k1 (by simp; omega)
  clear I0 U0 hx
  by_cases h : x = 0
  · subst h
    obtain ⟨H1, V1⟩ := hH rfl
    have hok := gete_0.1 HX.out.symm
    have HE := Lib.hid (show m.getv a i = m.ld (a + 2 + i) ∧ m.getb a i = ptb (m.atl a) (m.atm a) i from ⟨if_pos hok, if_pos hok⟩)
    have hp := Lib.hid (fun w => ptr_any (m.att a) (m.atl a) (m.atm a) i (atm_nn m a) (by have := atm_hi m a; omega) (by have := (fok_off HM.out.1.2.1 hok).2.2.1; have := atl_16 hok.1; omega) w)
    have H2 := H1.drew
    have V2 := V1.drew
    have I2 := I1.drew
    have U2 := U1.drew
    have UU := Up.refl w1.drew
    clear hH hok H1 V1 I1 U1
    go_wp2_with (fail)
    go_region_held3 (fun w' => (∀ j, w'.cell? ⟨(w.heap.size + 1 + 1 + 1), j, none⟩ = (hcs (m.att a) (m.atl a) (m.atm a) : Array Value)[j]?) ∧ (∀ j, w'.cell? ⟨(w.heap.size + 1 + 1 + 1 + 1), j, none⟩ = (#[.int .u64 (m.ld (a + 2 + i))] : Array Value)[j]?) ∧ (∀ j, w'.cell? ⟨(w.heap.size + 1 + 1), j, none⟩ = (#[.int .i64 i] : Array Value)[j]?))
      (exact ⟨fun i => (Blk.up H2 (by assumption)).cell i, fun i => (Blk.up V2 (by assumption)).cell i, fun i => (Blk.up I2 (by assumption)).cell i⟩)
      (first
        | (go_at_call 60; ((with_reducible refine (hp.out _).mono ?_); rintro e wz ⟨rfl, hz⟩; have UZ := Up.trans (a := w1.drew) (by assumption) hz)))
    all_goals
      go_wp2
      refine bodyPost_ret (v := .tuple #[.int .u64 (m.ld (a + 2 + i)), .bool (ptb (m.atl a) (m.atm a) i), .int .i64 0]) (by simp [results, Try.results31, go_sem]) rfl ⟨by rw [HE.out.1, HE.out.2, ← HX.out], U2.trans UZ⟩
  · have HN := Lib.hid (fun q => h (HX.out.trans (gete_0.2 q)))
    have hb : (x != 0) = true := bne_iff_ne.mpr h
    clear hH h
    go_wp2
    refine bodyPost_ret (v := .tuple #[.int .u64 0, .bool false, .int .i64 x]) (by simp [results, Try.results31, go_sem]) rfl ⟨by rw [← HX.out, show m.getv a i = 0 from if_neg HN.out, show m.getb a i = false from if_neg HN.out], U1⟩

/-- What the row of Set comes to. -/
def SetPhi (m : Me) (a i v : Int) (Bo : Nat) (x : Int) (w' : World) : Prop := x = m.gete a i ∧ ∃ P Q c d, Box w' Bo (m.setm a i v) P Q c d
theorem set_run (m : Me) (a i v : Int) (P Q : Addr) (c d Bm Ba Bi Bv Bh Bo : Nat) (w : World) (ha : U64 a) (hwf : m.wf) (h1 : Bm < Ba) (h2 : Ba < Bi) (h3 : Bi < Bv) (h4 : Bv < Bh) (h5 : Bh < Bo)
    (hM : Box w Bm m P Q c d) (hA : Blk w Ba 44 #[.int .u64 a]) (hI : Blk w Bi 3 #[.int .i64 i]) (hV : Blk w Bv 44 #[.int .u64 v]) (hH : Blk w Bh 55 (hcs 0 0 0)) (hO : Box w Bo m P Q c d) :
    Run [Bh, Bo] (SetPhi m a i v Bo) [(67, #[bx Bm, bx Ba, bx Bh]), (68, #[bx Bh, bx Bi]), (69, #[bx Bm, bx Ba, bx Bi, bx Bv, bx Bo])] w := by
  refine ⟨Try.call67, fun w0 u0 => ?_⟩
  refine (set_c1 m a 0 0 0 P Q c d Bm Ba Bh w0 ha hwf (hM.up u0) (hA.up u0) (hH.up u0)).mono ?_
  rintro e w1 ⟨rfl, k1, H1⟩
  have T1 := Tiny.one (hH.up u0)
  have M1 := (hM.up u0).kp k1 (by simp; omega) T1
  have A1 := (hA.up u0).kp k1 (by simp; omega)
  have I1 := (hI.up u0).kp k1 (by simp; omega)
  have V1 := (hV.up u0).kp k1 (by simp; omega)
  have O1 := (hO.up u0).kp k1 (by simp; omega) T1
  refine ⟨_, rfl, k1.mono (by simp), fun hx w2 u2 => ⟨(if_neg hx).symm, P, Q, c, d, by rw [show m.setm a i v = m from if_neg (fun q => hx q.1)]; exact O1.up u2⟩, fun hx => ?_⟩
  refine ⟨Try.call68, fun w2 u2 => ?_⟩
  refine (set_c2 _ _ _ i Bh Bi w2 (H1.up u2) (I1.up u2)).mono ?_
  rintro e w3 ⟨rfl, u3⟩
  refine ⟨_, rfl, .of_up u3, fun hy w4 u4 => ⟨(if_pos hx).symm, P, Q, c, d, by rw [show m.setm a i v = m from if_neg (fun q => hy ((congrArg (unl · 7) q.2).trans rfl))]; exact ((O1.up u2).up u3).up u4⟩, fun hy => ?_⟩
  have hok : m.fok a i := ⟨hx, by
    cases h : hasb (m.atl a) i
    · rw [h] at hy; cases hy
    · rfl⟩
  obtain ⟨ht, i0, i1, b0, b1⟩ := fok_off hM.2.1.2.1 hok
  refine ⟨Try.call69, fun w4 u4 => ?_⟩
  refine (set_c3 m a i v _ _ _ P Q c d Bm Ba Bi Bv Bo w4 ha i0 b1 (by omega) (by omega) (by omega) (by omega) (((M1.up u2).up u3).up u4) (((A1.up u2).up u3).up u4) (((I1.up u2).up u3).up u4) (((V1.up u2).up u3).up u4) (((O1.1.up u2).up u3).up u4)).mono ?_
  rintro e w5 ⟨rfl, k5, P', Q', c', d', O5⟩
  have hz : m.lde (a + 2 + i) = 0 := if_pos ht
  refine ⟨_, rfl, k5.mono (by simp), fun hq => absurd hz hq, fun _ w6 u6 => ⟨(gete_0.2 hok).symm, P', Q', c', d', ?_⟩⟩
  rw [show m.setm a i v = _ from if_pos hok]
  exact O5.up u6

set_option maxHeartbeats 2000000 in
theorem set_any (m : Me) (a i v : Int) (P Q : Addr) (c d : Nat) (w : World) (hm : Sits w m P Q c d) (ha : U64 a) (hwf : m.wf) :
    Calls Try.prog 35 #[.agg #[.int .i64 m.n, .slice (some P) m.n c, .slice (some Q) m.n d], .int .u64 a, .int .i64 i, .int .u64 v] w (Gives1 w (m.setm a i v) (.int .i64 (m.gete a i))) := by
  have HR := Lib.hid (set_run m a i v P Q c d)
  have HM := Lib.hid hm
  have HW := Lib.hid hwf
  have HA := Lib.hid ha
  generalize hK : m.setm a i v = K
  have HK := Lib.hid hK
  clear hm hwf ha hK
  go_enter Try.func35, Try.ntmps35
  go_wp2_with (fail)
  refine calls_at (fun Wz0 hWz0 => ?_)
  have M0 : Blk Wz0 (w.heap.size) 25 #[.int .i64 m.n, .slice (some P) m.n c, .slice (some Q) m.n d] := by rw [hWz0]; exact ((((((((Blk.new' _ (by simp) _ _).alloc _).alloc _).alloc _).alloc _).alloc _).alloc _).alloc _)
  have A0 : Blk Wz0 (w.heap.size + 1) 44 #[.int .u64 a] := by rw [hWz0]; exact (((((((Blk.new' _ (by simp) _ _).alloc _).alloc _).alloc _).alloc _).alloc _).alloc _)
  have I0 : Blk Wz0 (w.heap.size + 1 + 1) 3 #[.int .i64 i] := by rw [hWz0]; exact ((((((Blk.new' _ (by simp) _ _).alloc _).alloc _).alloc _).alloc _).alloc _)
  have V0 : Blk Wz0 (w.heap.size + 1 + 1 + 1) 44 #[.int .u64 v] := by rw [hWz0]; exact (((((Blk.new' _ (by simp) _ _).alloc _).alloc _).alloc _).alloc _)
  have R0 : Blk Wz0 (w.heap.size + 1 + 1 + 1 + 1) 25 #[.int .i64 0, .slice none 0 0, .slice none 0 0] := by rw [hWz0]; exact ((((Blk.new' _ (by simp) _ _).alloc _).alloc _).alloc _)
  have H0 : Blk Wz0 (w.heap.size + 1 + 1 + 1 + 1 + 1) 55 #[.int .i64 0, .int .i64 0, .int .u64 0] := by rw [hWz0]; exact (((Blk.new' _ (by simp) _ _).alloc _).alloc _)
  have O0 : Blk Wz0 (w.heap.size + 1 + 1 + 1 + 1 + 1 + 1) 25 #[.int .i64 m.n, .slice (some P) m.n c, .slice (some Q) m.n d] := by rw [hWz0]; exact ((Blk.new' _ (by simp) _ _).alloc _)
  have G0 : Blk Wz0 (w.heap.size + 1 + 1 + 1 + 1 + 1 + 1 + 1) 100 (List.map fnv [(67, #[bx (w.heap.size), bx (w.heap.size + 1), bx (w.heap.size + 1 + 1 + 1 + 1 + 1)]), (68, #[bx (w.heap.size + 1 + 1 + 1 + 1 + 1), bx (w.heap.size + 1 + 1)]), (69, #[bx (w.heap.size), bx (w.heap.size + 1), bx (w.heap.size + 1 + 1), bx (w.heap.size + 1 + 1 + 1), bx (w.heap.size + 1 + 1 + 1 + 1 + 1 + 1)])]).toArray := by rw [hWz0]; exact Blk.new' _ (by simp) _ _
  have U0 : Up w Wz0 := by rw [hWz0]; exact (((((((((Up.refl w).alloc _).alloc _).alloc _).alloc _).alloc _).alloc _).alloc _).alloc _)
  clear hWz0
  refine (do_any [(w.heap.size + 1 + 1 + 1 + 1 + 1), (w.heap.size + 1 + 1 + 1 + 1 + 1 + 1)] (SetPhi m a i v (w.heap.size + 1 + 1 + 1 + 1 + 1 + 1)) _ (w.heap.size + 1 + 1 + 1 + 1 + 1 + 1 + 1) Wz0 (by simp) (by simp <;> omega) G0 (HR.out _ _ _ _ _ _ _ HA.out HW.out (by omega) (by omega) (by omega) (by omega) (by omega) ⟨M0, HM.out.up U0⟩ A0 I0 V0 H0 ⟨O0, HM.out.up U0⟩)).mono ?_
  clear G0 M0 A0 I0 V0 H0 O0
  rintro e w1 ⟨x, rfl, k1, hx, P', Q', c', d', hO⟩
  rw [HK.out] at hO
  obtain ⟨O1, S1⟩ := hO
  have HX := Lib.hid hx
  have R1 := R0.kp k1 (by simp <;> omega)
  have U1 := U0.kp k1 (by simp; omega)
  clear R0 U0 hx
  have R1c := R1.cell
  have R1f := R1.frozen
  have R1l := R1.lt
  have O1c := O1.cell
  go_wp2
  refine bodyPost_ret (v := .tuple #[.agg #[.int .i64 K.n, .slice (some P') K.n c', .slice (some Q') K.n d'], .int .i64 x]) (by simp [results, Try.results35, go_sem, R1c, R1l]) rfl ⟨P', Q', c', d', by rw [← HX.out], ?_, ?_⟩
  · exact S1.far3 R1 _ _ _
  · exact U1.set3 (by omega) _ _ _

end Go.Proofs.Ytgcpkgogjcgfbaa
