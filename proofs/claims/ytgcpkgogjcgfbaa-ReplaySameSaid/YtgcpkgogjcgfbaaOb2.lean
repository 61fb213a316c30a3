/- What is told of an object at an address (object.At, known): contracts of the closures and of the calls. -/
import Derived.Test.YtgcpkgogjcgfbaaOb1
namespace Go.Proofs.Ytgcpkgogjcgfbaa
open Go.ChangeShapes Go.WideShapes Go.ChangeAt Go.RowKit
set_option linter.unusedVariables false
set_option linter.unusedSimpArgs false

abbrev bx (B : Nat) : Value := .pointer (some ⟨B, 0, none⟩)
abbrev hcs (t l mp : Int) : Array Value := #[.int .i64 t, .int .i64 l, .int .u64 mp]

/-- The address of an object: what is told, and why not. -/
def Me.atok (m : Me) (a : Int) : Prop := m.there a ∧ tkb (m.ld a) ∧ m.inn a (wdn (tgw (m.ld a)) (lnw (m.ld a)))
instance decAtok (m : Me) (a : Int) : Decidable (m.atok a) := by unfold Me.atok; infer_instance
def Me.ate (m : Me) (a : Int) : Int := if m.there a then (if tkb (m.ld a) then (if m.inn a (wdn (tgw (m.ld a)) (lnw (m.ld a))) then 0 else 2) else 10) else 2
def Me.att (m : Me) (a : Int) : Int := if m.atok a then tgw (m.ld a) else 0
def Me.atl (m : Me) (a : Int) : Int := if m.atok a then lnw (m.ld a) else 0
def Me.atm (m : Me) (a : Int) : Int := if m.atok a then mpw (m.ld a) else 0
theorem ate_0 {m : Me} {a : Int} : m.ate a = 0 ↔ m.atok a := by
  unfold Me.ate Me.atok
  by_cases h1 : m.there a
  · by_cases h2 : tkb (m.ld a)
    · by_cases h3 : m.inn a (wdn (tgw (m.ld a)) (lnw (m.ld a))) <;> simp [h1, h2, h3]
    · simp [h1, h2]
  · simp [h1]

/-- All words of memory are words. -/
def Me.wf (m : Me) : Prop := (∀ x ∈ m.xs, U64 x) ∧ (∀ x ∈ m.ys, U64 x)
theorem Me.wf.sp {m : Me} (h : m.wf) (s : Int) : ∀ x ∈ m.sp s, U64 x := by
  unfold Me.sp
  split
  · exact h.2
  · exact h.1
theorem u64_0 : U64 0 := ⟨by decide, by decide⟩
theorem Me.wf.ld {m : Me} (h : m.wf) (a : Int) : U64 (m.ld a) := by
  unfold Me.ld
  split
  · unfold List.getD
    cases e : (m.sp (whs a))[(whp a).toNat]? with
    | none => exact u64_0
    | some x => exact h.sp _ x (List.mem_of_getElem? e)
  · exact u64_0
theorem Me.wf.st {m : Me} (h : m.wf) {v : Int} (hv : U64 v) (a : Int) : (m.st a v).wf := by
  have hs : ∀ x ∈ (m.sp (whs a)).set (whp a).toNat v, U64 x := fun x hx => by
    rcases List.mem_or_eq_of_mem_set hx with q | rfl
    · exact h.sp _ x q
    · exact hv
  unfold Me.st
  split
  · unfold Me.put
    split
    · exact ⟨h.1, hs⟩
    · exact ⟨hs, h.2⟩
  · exact h
theorem atok_rte {m : Me} {a : Int} (h : m.atok a) : rte (tgw (m.ld a)) (lnw (m.ld a)) (mpw (m.ld a)) = 0 := h.2.1
theorem at_of {m : Me} {a : Int} (h : m.atok a) : m.att a = tgw (m.ld a) ∧ m.atl a = lnw (m.ld a) ∧ m.atm a = mpw (m.ld a) := ⟨if_pos h, if_pos h, if_pos h⟩
theorem at_no {m : Me} {a : Int} (h : ¬ m.atok a) : m.att a = 0 ∧ m.atl a = 0 ∧ m.atm a = 0 := ⟨if_neg h, if_neg h, if_neg h⟩

set_option maxHeartbeats 1000000 in
theorem at_c1 (m : Me) (a x : Int) (P Q : Addr) (c d Bm Ba Bw : Nat) (w : World) (ha : U64 a) (hM : Box w Bm m P Q c d) (hA : Blk w Ba 44 #[.int .u64 a]) (hW : Blk w Bw 44 #[.int .u64 x]) :
    Calls Try.prog 74 #[bx Bm, bx Ba, bx Bw] w (CellPost Bw 44 #[.int .u64 (m.ld a)] (m.lde a) w) := by
  have hl := Lib.hid (load_any m a P Q c d w hM.2 ha)
  have R0 := (hM.1).cell
  have R1 := (hA).cell
  go_enter Try.func74, Try.ntmps74
  go_wp2_with (fail)
  refine hl.out.mono ?_
  rintro e w1 ⟨rfl, h1⟩
  have W1 := hW.up h1
  have K1 := Kp.of_up (S := [Bw]) h1
  have W1c := W1.cell
  have W1f := W1.frozen
  have W1l := W1.lt
  clear h1 hW
  go_wp2
  go_ret
  exact ⟨rfl, K1.set_ (by simp) _, W1.set_ 0 _⟩

set_option maxHeartbeats 1000000 in
theorem at_c2 (v x0 x1 x2 : Int) (Bw Bh : Nat) (w : World) (hv : U64 v) (hW : Blk w Bw 44 #[.int .u64 v]) (hH : Blk w Bh 55 (hcs x0 x1 x2)) :
    Calls Try.prog 75 #[bx Bw, bx Bh] w (CellPost Bh 55 (hcs (tkt v) (tkl v) (tkm v)) (tke v) w) := by
  have hl := Lib.hid (take_any v hv.1 hv.2 w)
  have R0 := (hW).cell
  go_enter Try.func75, Try.ntmps75
  go_wp2_with (fail)
  refine hl.out.mono ?_
  rintro e w1 ⟨rfl, h1⟩
  have W1 := hH.up h1
  have K1 := Kp.of_up (S := [Bh]) h1
  have W1c := W1.cell
  have W1f := W1.frozen
  have W1l := W1.lt
  clear h1 hH
  go_wp2
  go_ret
  exact ⟨rfl, K1.set3 (by simp) _ _ _, W1.set3 _ _ _⟩

set_option maxHeartbeats 1000000 in
theorem at_c3 (m : Me) (a t l mp : Int) (P Q : Addr) (c d Bm Ba Bh : Nat) (w : World) (ha : U64 a) (hmp : 0 ≤ mp) (hh : rte t l mp = 0) (hM : Box w Bm m P Q c d) (hA : Blk w Ba 44 #[.int .u64 a]) (hH : Blk w Bh 55 (hcs t l mp)) :
    Calls Try.prog 77 #[bx Bm, bx Ba, bx Bh] w (fun e w' => e = .returned (.int .i64 (unl (decide (m.inn a (wdn t l))) 2)) ∧ Up w w') := by
  have hl := Lib.hid (there_any m a t l mp P Q c d w hM.2.1.2.1 ha hmp hh)
  have R0 := (hM.1).cell
  have R1 := (hA).cell
  have R2 := (hH).cell
  go_enter Try.func77, Try.ntmps77
  go_wp2_with (fail)
  refine hl.out.mono ?_
  rintro e w1 ⟨rfl, h1⟩
  go_wp2
  go_ret
  exact ⟨rfl, h1⟩

/-- What the row of At comes to. -/
def AtPhi (m : Me) (a : Int) (Bh : Nat) (x : Int) (w' : World) : Prop := x = m.ate a ∧ (x = 0 → Blk w' Bh 55 (hcs (m.att a) (m.atl a) (m.atm a)))
theorem at_run (m : Me) (a : Int) (P Q : Addr) (c d Bm Ba Bw Bh : Nat) (w : World) (ha : U64 a) (hwf : m.wf) (h1 : Bm < Ba) (h2 : Ba < Bw) (h3 : Bw < Bh)
    (hM : Box w Bm m P Q c d) (hA : Blk w Ba 44 #[.int .u64 a]) (hW : Blk w Bw 44 #[.int .u64 0]) (hH : Blk w Bh 55 (hcs 0 0 0)) :
    Run [Bw, Bh] (AtPhi m a Bh) [(74, #[bx Bm, bx Ba, bx Bw]), (75, #[bx Bw, bx Bh]), (77, #[bx Bm, bx Ba, bx Bh])] w := by
  refine ⟨Try.call74, fun w0 u0 => ?_⟩
  refine (at_c1 m a 0 P Q c d Bm Ba Bw w0 ha (hM.up u0) (hA.up u0) (hW.up u0)).mono ?_
  rintro e w1 ⟨rfl, k1, W1⟩
  have M1 := (hM.up u0).kp k1 (by simp; omega) (Tiny.one (hW.up u0))
  have A1 := (hA.up u0).kp k1 (by simp; omega)
  have H1 := (hH.up u0).kp k1 (by simp; omega)
  refine ⟨_, rfl, k1.mono (by simp), fun hx w2 u2 => ⟨?_, fun q => absurd q hx⟩, fun hx => ?_⟩
  · by_cases ht : m.there a
    · exact absurd (if_pos ht) hx
    · exact (if_neg ht).trans (if_neg ht).symm
  have ht : m.there a := by
    by_cases ht : m.there a
    · exact ht
    · rw [show m.lde a = 2 from if_neg ht] at hx; cases hx
  clear hx
  refine ⟨Try.call75, fun w2 u2 => ?_⟩
  refine (at_c2 (m.ld a) 0 0 0 Bw Bh w2 (hwf.ld a) (W1.up u2) (H1.up u2)).mono ?_
  rintro e w3 ⟨rfl, k3, H3⟩
  have M3 := (M1.up u2).kp k3 (by simp; omega) (Tiny.one (H1.up u2))
  have A3 := (A1.up u2).kp k3 (by simp; omega)
  refine ⟨_, rfl, k3.mono (by simp), fun hx w4 u4 => ⟨?_, fun q => absurd q hx⟩, fun hx => ?_⟩
  · by_cases hk : tkb (m.ld a)
    · exact absurd (if_pos hk) hx
    · exact (if_neg hk).trans ((if_pos ht).trans (if_neg hk)).symm
  have hk : tkb (m.ld a) := by
    by_cases hk : tkb (m.ld a)
    · exact hk
    · rw [show tke (m.ld a) = 10 from if_neg hk] at hx; cases hx
  clear hx
  rw [show tkt (m.ld a) = _ from if_pos hk, show tkl (m.ld a) = _ from if_pos hk, show tkm (m.ld a) = _ from if_pos hk] at H3
  refine ⟨Try.call77, fun w4 u4 => ?_⟩
  refine (at_c3 m a _ _ _ P Q c d Bm Ba Bh w4 ha (mpw_nn _) hk (M3.up u4) (A3.up u4) (H3.up u4)).mono ?_
  rintro e w5 ⟨rfl, h5⟩
  refine ⟨_, rfl, .of_up h5, fun hx w6 u6 => ⟨?_, fun q => absurd q hx⟩, fun hx w6 u6 => ⟨?_, fun _ => ?_⟩⟩
  · by_cases hi : m.inn a (wdn (tgw (m.ld a)) (lnw (m.ld a)))
    · rw [decide_eq_true hi] at hx; exact absurd rfl hx
    · rw [decide_eq_false hi]; exact ((if_pos ht).trans ((if_pos hk).trans (if_neg hi))).symm
  all_goals
    have hi : m.inn a (wdn (tgw (m.ld a)) (lnw (m.ld a))) := by
      by_cases hi : m.inn a (wdn (tgw (m.ld a)) (lnw (m.ld a)))
      · exact hi
      · rw [decide_eq_false hi] at hx; cases hx
  · exact ((if_pos ht).trans ((if_pos hk).trans (if_pos hi))).symm
  · obtain ⟨e1, e2, e3⟩ := at_of (m := m) (a := a) ⟨ht, hk, hi⟩
    rw [e1, e2, e3]
    exact ((H3.up u4).up h5).up u6

set_option maxHeartbeats 2000000 in
theorem at_any (m : Me) (a : Int) (P Q : Addr) (c d : Nat) (w : World) (hm : Sits w m P Q c d) (ha : U64 a) (hwf : m.wf) :
    Calls Try.prog 45 #[.agg #[.int .i64 m.n, .slice (some P) m.n c, .slice (some Q) m.n d], .int .u64 a] w fun e w' => e = .returned (.tuple #[hdv (m.att a) (m.atl a) (m.atm a), .int .i64 (m.ate a)]) ∧ Up w w' := by
  have HR := Lib.hid (at_run m a P Q c d)
  have HM := Lib.hid hm
  have HW := Lib.hid hwf
  have HA := Lib.hid ha
  clear hm hwf ha
  go_enter Try.func45, Try.ntmps45
  go_wp2_with (fail)
  refine calls_at (fun V0 hV0 => ?_)
  have M0 : Blk V0 (w.heap.size) 25 #[.int .i64 m.n, .slice (some P) m.n c, .slice (some Q) m.n d] := by rw [hV0]; exact ((((((Blk.new' _ (by simp) _ _).alloc _).alloc _).alloc _).alloc _).alloc _)
  have A0 : Blk V0 (w.heap.size + 1) 44 #[.int .u64 a] := by rw [hV0]; exact (((((Blk.new' _ (by simp) _ _).alloc _).alloc _).alloc _).alloc _)
  have R0 : Blk V0 (w.heap.size + 1 + 1) 55 #[.int .i64 0, .int .i64 0, .int .u64 0] := by rw [hV0]; exact ((((Blk.new' _ (by simp) _ _).alloc _).alloc _).alloc _)
  have W0 : Blk V0 (w.heap.size + 1 + 1 + 1) 44 #[.int .u64 0] := by rw [hV0]; exact (((Blk.new' _ (by simp) _ _).alloc _).alloc _)
  have H0 : Blk V0 (w.heap.size + 1 + 1 + 1 + 1) 55 #[.int .i64 0, .int .i64 0, .int .u64 0] := by rw [hV0]; exact ((Blk.new' _ (by simp) _ _).alloc _)
  have G0 : Blk V0 (w.heap.size + 1 + 1 + 1 + 1 + 1) 100 (List.map fnv [(74, #[bx (w.heap.size), bx (w.heap.size + 1), bx (w.heap.size + 1 + 1 + 1)]), (75, #[bx (w.heap.size + 1 + 1 + 1), bx (w.heap.size + 1 + 1 + 1 + 1)]), (77, #[bx (w.heap.size), bx (w.heap.size + 1), bx (w.heap.size + 1 + 1 + 1 + 1)])]).toArray := by rw [hV0]; exact Blk.new' _ (by simp) _ _
  have U0 : Up w V0 := by rw [hV0]; exact (((((((Up.refl w).alloc _).alloc _).alloc _).alloc _).alloc _).alloc _)
  clear hV0
  refine (do_any [(w.heap.size + 1 + 1 + 1), (w.heap.size + 1 + 1 + 1 + 1)] (AtPhi m a (w.heap.size + 1 + 1 + 1 + 1)) _ (w.heap.size + 1 + 1 + 1 + 1 + 1) V0 (by simp) (by simp <;> omega) G0 (HR.out _ _ _ _ _ HA.out HW.out (by omega) (by omega) (by omega) ⟨M0, HM.out.up U0⟩ A0 W0 H0)).mono ?_
  clear G0 M0 A0 W0 H0

  rintro e w1 ⟨x, rfl, k1, hx, hH⟩
  have HX := Lib.hid hx
  have R1 := R0.kp k1 (by simp <;> omega)
  have U1 := U0.kp k1 (by simp; omega)
  clear R0 U0 hx
  have R1c := R1.cell
  have R1f := R1.frozen
  have R1l := R1.lt
  by_cases h : x = 0
  · subst h
    have H1 := hH rfl
    have H1c := H1.cell
    clear hH
    go_wp2
    refine bodyPost_ret (v := .tuple #[hdv (m.att a) (m.atl a) (m.atm a), .int .i64 0]) (by simp [results, Try.results45, go_sem, R1c, R1l]) rfl ⟨by rw [← HX.out], ?_⟩
    exact U1.set3 (by omega) _ _ _
  · have HE := Lib.hid (at_no (fun q => h (HX.out.trans (ate_0.2 q))))
    have hb : (x != 0) = true := bne_iff_ne.mpr h
    clear hH h
    go_wp2
    refine bodyPost_ret (v := .tuple #[hdv 0 0 0, .int .i64 x]) (by simp [results, Try.results45, go_sem, R1c, R1l]) rfl ⟨by rw [← HX.out, HE.out.1, HE.out.2.1, HE.out.2.2], ?_⟩
    exact U1.set3 (by omega) _ _ _

end Go.Proofs.Ytgcpkgogjcgfbaa
