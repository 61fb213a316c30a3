/- Package object: contracts. -/
import Derived.Test.YtddoljfkbkbfjaaGreatAe
/-! Of stage 5 -/
namespace Go.Proofs.YtddoljfkbkbfjaaGreat
open Go.ChangeShapes Go.WideShapes Go.ChangeAt Go.RowKit
set_option linter.unusedVariables false
set_option linter.unusedSimpArgs false

abbrev bx (B : Nat) : Value := .pointer (some ⟨B, 0, none⟩)
abbrev hcs (t l mp : Int) : Array Value := #[.int .i64 t, .int .i64 l, .int .u64 mp]

/-- The address of an object: what is told, and why not. -/
def Me.atok (m : Me) (a : Int) : Prop := m.there a ∧ tkb (m.ld a) ∧ m.inn a (wdn (tgw (m.ld a)) (lnw (m.ld a)))
instance decAtok (m : Me) (a : Int) : Decidable (m.atok a) := by unfold Me.atok; infer_instance
def Me.ate (m : Me) (a : Int) : Int := if m.there a then (if tkb (m.ld a) then (if m.inn a (wdn (tgw (m.ld a)) (lnw (m.ld a))) then 0 else 2) else 10) else 2
def Me.att (m : Me) (a : Int) : Int := if m.atok a then tgw (m.ld a) else 0
def Me.atl (m : Me) (a : Int) : Int := if m.atok a then lnw (m.ld a) else 0
def Me.atm (m : Me) (a : Int) : Int := if m.atok a then mpw (m.ld a) else 0
theorem ate_0 {m : Me} {a : Int} : m.ate a = 0 ↔ m.atok a := by
  unfold Me.ate Me.atok
  by_cases h1 : m.there a
  · by_cases h2 : tkb (m.ld a)
    · by_cases h3 : m.inn a (wdn (tgw (m.ld a)) (lnw (m.ld a))) <;> simp [h1, h2, h3]
    · simp [h1, h2]
  · simp [h1]

/-- All words of memory are words. -/
def Me.wf (m : Me) : Prop := (∀ x ∈ m.xs, U64 x) ∧ (∀ x ∈ m.ys, U64 x)
theorem Me.wf.sp {m : Me} (h : m.wf) (s : Int) : ∀ x ∈ m.sp s, U64 x := by
  unfold Me.sp
  split
  · exact h.2
  · exact h.1
theorem u64_0 : U64 0 := ⟨by decide, by decide⟩
theorem Me.wf.ld {m : Me} (h : m.wf) (a : Int) : U64 (m.ld a) := by
  unfold Me.ld
  split
  · unfold List.getD
    cases e : (m.sp (whs a))[(whp a).toNat]? with
    | none => exact u64_0
    | some x => exact h.sp _ x (List.mem_of_getElem? e)
  · exact u64_0
theorem Me.wf.st {m : Me} (h : m.wf) {v : Int} (hv : U64 v) (a : Int) : (m.st a v).wf := by
  have hs : ∀ x ∈ (m.sp (whs a)).set (whp a).toNat v, U64 x := fun x hx => by
    rcases List.mem_or_eq_of_mem_set hx with q | rfl
    · exact h.sp _ x q
    · exact hv
  unfold Me.st
  split
  · unfold Me.put
    split
    · exact ⟨h.1, hs⟩
    · exact ⟨hs, h.2⟩
  · exact h
theorem atok_rte {m : Me} {a : Int} (h : m.atok a) : rte (tgw (m.ld a)) (lnw (m.ld a)) (mpw (m.ld a)) = 0 := h.2.1
theorem at_of {m : Me} {a : Int} (h : m.atok a) : m.att a = tgw (m.ld a) ∧ m.atl a = lnw (m.ld a) ∧ m.atm a = mpw (m.ld a) := ⟨if_pos h, if_pos h, if_pos h⟩
theorem at_no {m : Me} {a : Int} (h : ¬ m.atok a) : m.att a = 0 ∧ m.atl a = 0 ∧ m.atm a = 0 := ⟨if_neg h, if_neg h, if_neg h⟩

set_option maxHeartbeats 1000000 in
theorem at_c1 (m : Me) (a x : Int) (P Q : Addr) (c d Bm Ba Bw : Nat) (w : World) (ha : U64 a) (hM : Box w Bm m P Q c d) (hA : Blk w Ba 54 #[.int .u64 a]) (hW : Blk w Bw 54 #[.int .u64 x]) :
    Calls Tryz.prog 108 #[bx Bm, bx Ba, bx Bw] w (CellPost Bw 54 #[.int .u64 (m.ld a)] (m.lde a) w) := by
  have hl := Lib.hid (load_any m a P Q c d w hM.2 ha)
  have R0 := (hM.1).cell
  have R1 := (hA).cell
  go_enter Tryz.func108, Tryz.ntmps108
  go_wp2_with (fail)
  refine hl.out.mono ?_
  rintro e w1 ⟨rfl, h1⟩
  have W1 := hW.up h1
  have K1 := Kp.of_up (S := [Bw]) h1
  have W1c := W1.cell
  have W1f := W1.frozen
  have W1l := W1.lt
  clear h1 hW
  go_wp2
  go_ret
  exact ⟨rfl, K1.set_ (by simp) _, W1.set_ 0 _⟩

set_option maxHeartbeats 1000000 in
theorem at_c2 (v x0 x1 x2 : Int) (Bw Bh : Nat) (w : World) (hv : U64 v) (hW : Blk w Bw 54 #[.int .u64 v]) (hH : Blk w Bh 60 (hcs x0 x1 x2)) :
    Calls Tryz.prog 110 #[bx Bw, bx Bh] w (CellPost Bh 60 (hcs (tkt v) (tkl v) (tkm v)) (tke v) w) := by
  have hl := Lib.hid (take_any v hv.1 hv.2 w)
  have R0 := (hW).cell
  go_enter Tryz.func110, Tryz.ntmps110
  go_wp2_with (fail)
  refine hl.out.mono ?_
  rintro e w1 ⟨rfl, h1⟩
  have W1 := hH.up h1
  have K1 := Kp.of_up (S := [Bh]) h1
  have W1c := W1.cell
  have W1f := W1.frozen
  have W1l := W1.lt
  clear h1 hH
  go_wp2
  go_ret
  exact ⟨rfl, K1.set3 (by simp) _ _ _, W1.set3 _ _ _⟩

set_option maxHeartbeats 1000000 in
theorem at_c3 (m : Me) (a t l mp : Int) (P Q : Addr) (c d Bm Ba Bh : Nat) (w : World) (ha : U64 a) (hmp : 0 ≤ mp) (hh : rte t l mp = 0) (hM : Box w Bm m P Q c d) (hA : Blk w Ba 54 #[.int .u64 a]) (hH : Blk w Bh 60 (hcs t l mp)) :
    Calls Tryz.prog 112 #[bx Bm, bx Ba, bx Bh] w (fun e w' => e = .returned (.int .i64 (unl (decide (m.inn a (wdn t l))) 2)) ∧ Up w w') := by
  have hl := Lib.hid (there_any m a t l mp P Q c d w hM.2.1.2.1 ha hmp hh)
  have R0 := (hM.1).cell
  have R1 := (hA).cell
  have R2 := (hH).cell
  go_enter Tryz.func112, Tryz.ntmps112
  go_wp2_with (fail)
  refine hl.out.mono ?_
  rintro e w1 ⟨rfl, h1⟩
  go_wp2
  go_ret
  exact ⟨rfl, h1⟩

/-- What the row of At comes to. -/
def AtPhi (m : Me) (a : Int) (Bh : Nat) (x : Int) (w' : World) : Prop := x = m.ate a ∧ (x = 0 → Blk w' Bh 60 (hcs (m.att a) (m.atl a) (m.atm a)))
theorem at_run (m : Me) (a : Int) (P Q : Addr) (c d Bm Ba Bw Bh : Nat) (w : World) (ha : U64 a) (hwf : m.wf) (h1 : Bm < Ba) (h2 : Ba < Bw) (h3 : Bw < Bh)
    (hM : Box w Bm m P Q c d) (hA : Blk w Ba 54 #[.int .u64 a]) (hW : Blk w Bw 54 #[.int .u64 0]) (hH : Blk w Bh 60 (hcs 0 0 0)) :
    Run [Bw, Bh] (AtPhi m a Bh) [(108, #[bx Bm, bx Ba, bx Bw]), (110, #[bx Bw, bx Bh]), (112, #[bx Bm, bx Ba, bx Bh])] w := by
  refine ⟨Tryz.call108, fun w0 u0 => ?_⟩
  refine (at_c1 m a 0 P Q c d Bm Ba Bw w0 ha (hM.up u0) (hA.up u0) (hW.up u0)).mono ?_
  rintro e w1 ⟨rfl, k1, W1⟩
  have M1 := (hM.up u0).kp k1 (by simp; omega) (Tiny.one (hW.up u0))
  have A1 := (hA.up u0).kp k1 (by simp; omega)
  have H1 := (hH.up u0).kp k1 (by simp; omega)
  refine ⟨_, rfl, k1.mono (by simp), fun hx w2 u2 => ⟨?_, fun q => absurd q hx⟩, fun hx => ?_⟩
  · by_cases ht : m.there a
    · exact absurd (if_pos ht) hx
    · exact (if_neg ht).trans (if_neg ht).symm
  have ht : m.there a := by
    by_cases ht : m.there a
    · exact ht
    · rw [show m.lde a = 2 from if_neg ht] at hx; cases hx
  clear hx
  refine ⟨Tryz.call110, fun w2 u2 => ?_⟩
  refine (at_c2 (m.ld a) 0 0 0 Bw Bh w2 (hwf.ld a) (W1.up u2) (H1.up u2)).mono ?_
  rintro e w3 ⟨rfl, k3, H3⟩
  have M3 := (M1.up u2).kp k3 (by simp; omega) (Tiny.one (H1.up u2))
  have A3 := (A1.up u2).kp k3 (by simp; omega)
  refine ⟨_, rfl, k3.mono (by simp), fun hx w4 u4 => ⟨?_, fun q => absurd q hx⟩, fun hx => ?_⟩
  · by_cases hk : tkb (m.ld a)
    · exact absurd (if_pos hk) hx
    · exact (if_neg hk).trans ((if_pos ht).trans (if_neg hk)).symm
  have hk : tkb (m.ld a) := by
    by_cases hk : tkb (m.ld a)
    · exact hk
    · rw [show tke (m.ld a) = 10 from if_neg hk] at hx; cases hx
  clear hx
  rw [show tkt (m.ld a) = _ from if_pos hk, show tkl (m.ld a) = _ from if_pos hk, show tkm (m.ld a) = _ from if_pos hk] at H3
  refine ⟨Tryz.call112, fun w4 u4 => ?_⟩
  refine (at_c3 m a _ _ _ P Q c d Bm Ba Bh w4 ha (mpw_nn _) hk (M3.up u4) (A3.up u4) (H3.up u4)).mono ?_
  rintro e w5 ⟨rfl, h5⟩
  refine ⟨_, rfl, .of_up h5, fun hx w6 u6 => ⟨?_, fun q => absurd q hx⟩, fun hx w6 u6 => ⟨?_, fun _ => ?_⟩⟩
  · by_cases hi : m.inn a (wdn (tgw (m.ld a)) (lnw (m.ld a)))
    · rw [decide_eq_true hi] at hx; exact absurd rfl hx
    · rw [decide_eq_false hi]; exact ((if_pos ht).trans ((if_pos hk).trans (if_neg hi))).symm
  all_goals
    have hi : m.inn a (wdn (tgw (m.ld a)) (lnw (m.ld a))) := by
      by_cases hi : m.inn a (wdn (tgw (m.ld a)) (lnw (m.ld a)))
      · exact hi
      · rw [decide_eq_false hi] at hx; cases hx
  · exact ((if_pos ht).trans ((if_pos hk).trans (if_pos hi))).symm
  · obtain ⟨e1, e2, e3⟩ := at_of (m := m) (a := a) ⟨ht, hk, hi⟩
    rw [e1, e2, e3]
    exact ((H3.up u4).up h5).up u6

set_option maxHeartbeats 2000000 in
theorem at_any (m : Me) (a : Int) (P Q : Addr) (c d : Nat) (w : World) (hm : Sits w m P Q c d) (ha : U64 a) (hwf : m.wf) :
    Calls Tryz.prog 96 #[.agg #[.int .i64 m.n, .slice (some P) m.n c, .slice (some Q) m.n d], .int .u64 a] w fun e w' => e = .returned (.tuple #[hdv (m.att a) (m.atl a) (m.atm a), .int .i64 (m.ate a)]) ∧ Up w w' := by
  have HR := Lib.hid (at_run m a P Q c d)
  have HM := Lib.hid hm
  have HW := Lib.hid hwf
  have HA := Lib.hid ha
  clear hm hwf ha
  go_enter Tryz.func96, Tryz.ntmps96
  go_wp2_with (fail)
  refine calls_at (fun V0 hV0 => ?_)
  have M0 : Blk V0 (w.heap.size) 25 #[.int .i64 m.n, .slice (some P) m.n c, .slice (some Q) m.n d] := by rw [hV0]; exact ((((((Blk.new' _ (by simp) _ _).alloc _).alloc _).alloc _).alloc _).alloc _)
  have A0 : Blk V0 (w.heap.size + 1) 54 #[.int .u64 a] := by rw [hV0]; exact (((((Blk.new' _ (by simp) _ _).alloc _).alloc _).alloc _).alloc _)
  have R0 : Blk V0 (w.heap.size + 1 + 1) 60 #[.int .i64 0, .int .i64 0, .int .u64 0] := by rw [hV0]; exact ((((Blk.new' _ (by simp) _ _).alloc _).alloc _).alloc _)
  have W0 : Blk V0 (w.heap.size + 1 + 1 + 1) 54 #[.int .u64 0] := by rw [hV0]; exact (((Blk.new' _ (by simp) _ _).alloc _).alloc _)
  have H0 : Blk V0 (w.heap.size + 1 + 1 + 1 + 1) 60 #[.int .i64 0, .int .i64 0, .int .u64 0] := by rw [hV0]; exact ((Blk.new' _ (by simp) _ _).alloc _)
  have G0 : Blk V0 (w.heap.size + 1 + 1 + 1 + 1 + 1) 114 (List.map fnv [(108, #[bx (w.heap.size), bx (w.heap.size + 1), bx (w.heap.size + 1 + 1 + 1)]), (110, #[bx (w.heap.size + 1 + 1 + 1), bx (w.heap.size + 1 + 1 + 1 + 1)]), (112, #[bx (w.heap.size), bx (w.heap.size + 1), bx (w.heap.size + 1 + 1 + 1 + 1)])]).toArray := by rw [hV0]; exact Blk.new' _ (by simp) _ _
  have U0 : Up w V0 := by rw [hV0]; exact (((((((Up.refl w).alloc _).alloc _).alloc _).alloc _).alloc _).alloc _)
  clear hV0
  refine (do_any [(w.heap.size + 1 + 1 + 1), (w.heap.size + 1 + 1 + 1 + 1)] (AtPhi m a (w.heap.size + 1 + 1 + 1 + 1)) _ (w.heap.size + 1 + 1 + 1 + 1 + 1) V0 (by simp) (by simp <;> omega) G0 (HR.out _ _ _ _ _ HA.out HW.out (by omega) (by omega) (by omega) ⟨M0, HM.out.up U0⟩ A0 W0 H0)).mono ?_
  clear G0 M0 A0 W0 H0

  rintro e w1 ⟨x, rfl, k1, hx, hH⟩
  have HX := Lib.hid hx
  have R1 := R0.kp k1 (by simp <;> omega)
  have U1 := U0.kp k1 (by simp; omega)
  clear R0 U0 hx
  have R1c := R1.cell
  have R1f := R1.frozen
  have R1l := R1.lt
  by_cases h : x = 0
  · subst h
    have H1 := hH rfl
    have H1c := H1.cell
    clear hH
    go_wp2
    refine bodyPost_ret (v := .tuple #[hdv (m.att a) (m.atl a) (m.atm a), .int .i64 0]) (by simp [results, Tryz.results96, go_sem, R1c, R1l]) rfl ⟨by rw [← HX.out], ?_⟩
    exact U1.set3 (by omega) _ _ _
  · have HE := Lib.hid (at_no (fun q => h (HX.out.trans (ate_0.2 q))))
    have hb : (x != 0) = true := bne_iff_ne.mpr h
    clear hH h
    go_wp2
    refine bodyPost_ret (v := .tuple #[hdv 0 0 0, .int .i64 x]) (by simp [results, Tryz.results96, go_sem, R1c, R1l]) rfl ⟨by rw [← HX.out, HE.out.1, HE.out.2.1, HE.out.2.2], ?_⟩
    exact U1.set3 (by omega) _ _ _


end Go.Proofs.YtddoljfkbkbfjaaGreat
/-! Of stage 5 -/
namespace Go.Proofs.YtddoljfkbkbfjaaGreat
open Go.ChangeShapes Go.WideShapes Go.ChangeAt Go.RowKit
set_option linter.unusedVariables false
set_option linter.unusedSimpArgs false

/-- The error of an object that must not be a filler. -/
def Me.kne (m : Me) (a : Int) : Int := if m.atok a then unl (m.att a != 255) 8 else m.ate a
theorem kne_0 {m : Me} {a : Int} : m.kne a = 0 ↔ m.atok a ∧ m.att a ≠ 255 := by
  unfold Me.kne
  by_cases h : m.atok a
  · rw [if_pos h]
    by_cases k : m.att a = 255
    · simp [k, unl]
    · simp [k, unl, h]
  · rw [if_neg h]
    exact ⟨fun q => absurd (ate_0.1 q) h, fun q => absurd q.1 h⟩
/-- A field is there. -/
def Me.fok (m : Me) (a i : Int) : Prop := m.kne a = 0 ∧ hasb (m.atl a) i = true
instance decFok (m : Me) (a i : Int) : Decidable (m.fok a i) := by unfold Me.fok; infer_instance
def Me.gete (m : Me) (a i : Int) : Int := if m.kne a = 0 then unl (hasb (m.atl a) i) 7 else m.kne a
theorem gete_0 {m : Me} {a i : Int} : m.gete a i = 0 ↔ m.fok a i := by
  unfold Me.gete Me.fok
  by_cases h : m.kne a = 0
  · rw [if_pos h]
    cases hasb (m.atl a) i <;> simp [unl, h]
  · rw [if_neg h]
    exact ⟨fun q => absurd q h, fun q => absurd q.1 h⟩
def Me.getv (m : Me) (a i : Int) : Int := if m.fok a i then m.ld (a + 2 + i) else 0
def Me.getb (m : Me) (a i : Int) : Bool := if m.fok a i then ptb (m.atl a) (m.atm a) i else false
def Me.setm (m : Me) (a i v : Int) : Me := if m.fok a i then m.st (a + 2 + i) v else m

/-- An object's words lie side by side. -/
theorem inn_off {m : Me} {a k j : Int} (hn : m.n ≤ 4096) (h : m.inn a k) (h0 : 0 ≤ j) (h1 : j < k) : whs (a + j) = whs a ∧ whp (a + j) = whp a + j ∧ m.there (a + j) ∧ 0 ≤ a + j ∧ a + j ≤ 18446744073709551615 := by
  obtain ⟨hb, hk⟩ := h
  have e := adr_of hb
  have hp := whp_nn a
  have hs := whs_01 a
  have hl : Leads (a + j) (whs a) (whp a + j) := ⟨hs, by omega, by omega, by omega⟩
  obtain ⟨e1, e2, e3⟩ := hl.is
  exact ⟨e1, e2, ⟨e3, by omega⟩, by omega, by omega⟩
theorem kne_inn {m : Me} {a : Int} (h : m.kne a = 0) : m.inn a (m.atl a + 2) ∧ 0 ≤ m.atl a := by
  obtain ⟨h1, h2⟩ := kne_0.1 h
  obtain ⟨e1, e2, e3⟩ := at_of h1
  have h3 := h1.2.2
  have h4 := rte_small (mpw_nn _) (atok_rte h1)
  rw [e1] at h2
  rw [e2]
  rw [show wdn (tgw (m.ld a)) (lnw (m.ld a)) = lnw (m.ld a) + 2 from if_neg h2] at h3
  exact ⟨h3, h4.2.2.1⟩
theorem fok_off {m : Me} {a i : Int} (hn : m.n ≤ 4096) (h : m.fok a i) : m.there (a + 2 + i) ∧ 0 ≤ i ∧ i < m.atl a ∧ 0 ≤ a + 2 + i ∧ a + 2 + i ≤ 18446744073709551615 := by
  obtain ⟨h1, h2⟩ := h
  obtain ⟨i0, i1⟩ := of_decide_eq_true h2
  obtain ⟨h3, h4⟩ := kne_inn h1
  obtain ⟨_, _, q, r, s⟩ := inn_off (j := 2 + i) hn h3 (by omega) (by omega)
  rw [show a + 2 + i = a + (2 + i) from by omega]
  exact ⟨q, i0, i1, r, s⟩
theorem atm_nn (m : Me) (a : Int) : 0 ≤ m.atm a := by
  unfold Me.atm
  split
  · exact mpw_nn _
  · exact Int.le_refl 0
theorem atm_hi (m : Me) (a : Int) : m.atm a ≤ 4294967295 := by
  unfold Me.atm mpw
  split <;> omega
theorem atl_16 {m : Me} {a : Int} (h : m.kne a = 0) : m.atl a ≤ 16 := by
  obtain ⟨h1, h2⟩ := kne_0.1 h
  obtain ⟨e1, e2, e3⟩ := at_of h1
  have h4 := (rte_small (mpw_nn _) (atok_rte h1)).2.2.2.2.2
  rw [e1] at h2
  rw [e2]
  omega

set_option maxHeartbeats 1000000 in
theorem known_c1 (m : Me) (a x0 x1 x2 : Int) (P Q : Addr) (c d Bm Ba Bh : Nat) (w : World) (ha : U64 a) (hwf : m.wf) (hM : Box w Bm m P Q c d) (hA : Blk w Ba 54 #[.int .u64 a]) (hH : Blk w Bh 60 (hcs x0 x1 x2)) :
    Calls Tryz.prog 140 #[bx Bm, bx Ba, bx Bh] w (CellPost Bh 60 (hcs (m.att a) (m.atl a) (m.atm a)) (m.ate a) w) := by
  have hl := Lib.hid (at_any m a P Q c d w hM.2 ha hwf)
  have R0 := (hM.1).cell
  have R1 := (hA).cell
  go_enter Tryz.func140, Tryz.ntmps140
  go_wp2_with (fail)
  refine hl.out.mono ?_
  rintro e w1 ⟨rfl, h1⟩
  have W1 := hH.up h1
  have K1 := Kp.of_up (S := [Bh]) h1
  have W1c := W1.cell
  have W1f := W1.frozen
  have W1l := W1.lt
  clear h1 hH
  go_wp2
  go_ret
  exact ⟨rfl, K1.set3 (by simp) _ _ _, W1.set3 _ _ _⟩

set_option maxHeartbeats 1000000 in
theorem known_c2 (t l mp : Int) (Bh : Nat) (w : World) (hH : Blk w Bh 60 (hcs t l mp)) :
    Calls Tryz.prog 141 #[bx Bh] w (fun e w' => e = .returned (.int .i64 (unl (t != 255) 8)) ∧ w = w') := by
  have hl := Lib.hid (unless_any (t != 255) 8 w)
  have R0 := (hH).cell
  go_enter Tryz.func141, Tryz.ntmps141
  go_wp2_with (fail)
  refine hl.out.mono ?_
  rintro e w1 ⟨rfl, h1⟩
  go_wp2
  go_ret
  exact ⟨rfl, h1⟩

/-- What the row of known comes to. -/
def KnPhi (m : Me) (a : Int) (Bh : Nat) (x : Int) (w' : World) : Prop := x = m.kne a ∧ Blk w' Bh 60 (hcs (m.att a) (m.atl a) (m.atm a))
theorem known_run (m : Me) (a : Int) (P Q : Addr) (c d Bm Ba Bh : Nat) (w : World) (ha : U64 a) (hwf : m.wf) (h1 : Bm < Ba) (h2 : Ba < Bh)
    (hM : Box w Bm m P Q c d) (hA : Blk w Ba 54 #[.int .u64 a]) (hH : Blk w Bh 60 (hcs 0 0 0)) :
    Run [Bh] (KnPhi m a Bh) [(140, #[bx Bm, bx Ba, bx Bh]), (141, #[bx Bh])] w := by
  refine ⟨Tryz.call140, fun w0 u0 => ?_⟩
  refine (known_c1 m a 0 0 0 P Q c d Bm Ba Bh w0 ha hwf (hM.up u0) (hA.up u0) (hH.up u0)).mono ?_
  rintro e w1 ⟨rfl, k1, H1⟩
  refine ⟨_, rfl, k1, fun hx w2 u2 => ⟨?_, H1.up u2⟩, fun hx => ?_⟩
  · exact (if_neg (fun q => hx (ate_0.2 q))).symm
  have hk := ate_0.1 hx
  refine ⟨Tryz.call141, fun w2 u2 => ?_⟩
  refine (known_c2 _ _ _ Bh w2 (H1.up u2)).mono ?_
  rintro e w3 ⟨rfl, rfl⟩
  exact ⟨_, rfl, Kp.refl _ _, fun hx w4 u4 => ⟨(if_pos hk).symm, (H1.up u2).up u4⟩, fun hx w4 u4 => ⟨hx.symm.trans (if_pos hk).symm, (H1.up u2).up u4⟩⟩

set_option maxHeartbeats 2000000 in
theorem known_any (m : Me) (a : Int) (P Q : Addr) (c d : Nat) (w : World) (hm : Sits w m P Q c d) (ha : U64 a) (hwf : m.wf) :
    Calls Tryz.prog 116 #[.agg #[.int .i64 m.n, .slice (some P) m.n c, .slice (some Q) m.n d], .int .u64 a] w fun e w' => e = .returned (.tuple #[hdv (m.att a) (m.atl a) (m.atm a), .int .i64 (m.kne a)]) ∧ Up w w' := by
  have HR := Lib.hid (known_run m a P Q c d)
  have HM := Lib.hid hm
  have HW := Lib.hid hwf
  have HA := Lib.hid ha
  clear hm hwf ha
  go_enter Tryz.func116, Tryz.ntmps116
  go_wp2_with (fail)
  refine calls_at (fun V0 hV0 => ?_)
  have M0 : Blk V0 (w.heap.size) 25 #[.int .i64 m.n, .slice (some P) m.n c, .slice (some Q) m.n d] := by rw [hV0]; exact (((((Blk.new' _ (by simp) _ _).alloc _).alloc _).alloc _).alloc _)
  have A0 : Blk V0 (w.heap.size + 1) 54 #[.int .u64 a] := by rw [hV0]; exact ((((Blk.new' _ (by simp) _ _).alloc _).alloc _).alloc _)
  have R0 : Blk V0 (w.heap.size + 1 + 1) 60 #[.int .i64 0, .int .i64 0, .int .u64 0] := by rw [hV0]; exact (((Blk.new' _ (by simp) _ _).alloc _).alloc _)
  have H0 : Blk V0 (w.heap.size + 1 + 1 + 1) 60 #[.int .i64 0, .int .i64 0, .int .u64 0] := by rw [hV0]; exact ((Blk.new' _ (by simp) _ _).alloc _)
  have G0 : Blk V0 (w.heap.size + 1 + 1 + 1 + 1) 114 (List.map fnv [(140, #[bx (w.heap.size), bx (w.heap.size + 1), bx (w.heap.size + 1 + 1 + 1)]), (141, #[bx (w.heap.size + 1 + 1 + 1)])]).toArray := by rw [hV0]; exact Blk.new' _ (by simp) _ _
  have U0 : Up w V0 := by rw [hV0]; exact ((((((Up.refl w).alloc _).alloc _).alloc _).alloc _).alloc _)
  clear hV0
  refine (do_any [(w.heap.size + 1 + 1 + 1)] (KnPhi m a (w.heap.size + 1 + 1 + 1)) _ (w.heap.size + 1 + 1 + 1 + 1) V0 (by simp) (by simp <;> omega) G0 (HR.out _ _ _ _ HA.out HW.out (by omega) (by omega) ⟨M0, HM.out.up U0⟩ A0 H0)).mono ?_
  clear G0 M0 A0 H0
  rintro e w1 ⟨x, rfl, k1, hx, H1⟩
  have HX := Lib.hid hx
  have R1 := R0.kp k1 (by simp <;> omega)
  have U1 := U0.kp k1 (by simp; omega)
  clear R0 U0 hx
  have R1c := R1.cell
  have R1f := R1.frozen
  have R1l := R1.lt
  have H1c := H1.cell
  go_wp2
  refine bodyPost_ret (v := .tuple #[hdv (m.att a) (m.atl a) (m.atm a), .int .i64 x]) (by simp [results, Tryz.results116, go_sem, R1c, R1l]) rfl ⟨by rw [← HX.out], ?_⟩
  exact U1.set3 (by omega) _ _ _

set_option maxHeartbeats 1000000 in
theorem get_c1 (m : Me) (a x0 x1 x2 : Int) (P Q : Addr) (c d Bm Ba Bh : Nat) (w : World) (ha : U64 a) (hwf : m.wf) (hM : Box w Bm m P Q c d) (hA : Blk w Ba 54 #[.int .u64 a]) (hH : Blk w Bh 60 (hcs x0 x1 x2)) :
    Calls Tryz.prog 115 #[bx Bm, bx Ba, bx Bh] w (CellPost Bh 60 (hcs (m.att a) (m.atl a) (m.atm a)) (m.kne a) w) := by
  have hl := Lib.hid (known_any m a P Q c d w hM.2 ha hwf)
  have R0 := (hM.1).cell
  have R1 := (hA).cell
  go_enter Tryz.func115, Tryz.ntmps115
  go_wp2_with (fail)
  refine hl.out.mono ?_
  rintro e w1 ⟨rfl, h1⟩
  have W1 := hH.up h1
  have K1 := Kp.of_up (S := [Bh]) h1
  have W1c := W1.cell
  have W1f := W1.frozen
  have W1l := W1.lt
  clear h1 hH
  go_wp2
  go_ret
  exact ⟨rfl, K1.set3 (by simp) _ _ _, W1.set3 _ _ _⟩

set_option maxHeartbeats 1000000 in
theorem set_c1 (m : Me) (a x0 x1 x2 : Int) (P Q : Addr) (c d Bm Ba Bh : Nat) (w : World) (ha : U64 a) (hwf : m.wf) (hM : Box w Bm m P Q c d) (hA : Blk w Ba 54 #[.int .u64 a]) (hH : Blk w Bh 60 (hcs x0 x1 x2)) :
    Calls Tryz.prog 124 #[bx Bm, bx Ba, bx Bh] w (CellPost Bh 60 (hcs (m.att a) (m.atl a) (m.atm a)) (m.kne a) w) := by
  have hl := Lib.hid (known_any m a P Q c d w hM.2 ha hwf)
  have R0 := (hM.1).cell
  have R1 := (hA).cell
  go_enter Tryz.func124, Tryz.ntmps124
  go_wp2_with (fail)
  refine hl.out.mono ?_
  rintro e w1 ⟨rfl, h1⟩
  have W1 := hH.up h1
  have K1 := Kp.of_up (S := [Bh]) h1
  have W1c := W1.cell
  have W1f := W1.frozen
  have W1l := W1.lt
  clear h1 hH
  go_wp2
  go_ret
  exact ⟨rfl, K1.set3 (by simp) _ _ _, W1.set3 _ _ _⟩

set_option maxHeartbeats 1000000 in
theorem get_c2 (t l mp i : Int) (Bh Bi : Nat) (w : World) (hH : Blk w Bh 60 (hcs t l mp)) (hI : Blk w Bi 3 #[.int .i64 i]) :
    Calls Tryz.prog 117 #[bx Bh, bx Bi] w (fun e w' => e = .returned (.int .i64 (unl (hasb l i) 7)) ∧ Up w w') := by
  have hl := Lib.hid (has_any t l mp i w)
  have R0 := (hH).cell
  have R1 := (hI).cell
  go_enter Tryz.func117, Tryz.ntmps117
  go_wp2_with (fail)
  refine hl.out.mono ?_
  rintro e w1 ⟨rfl, h1⟩
  go_wp2
  go_ret
  exact ⟨rfl, h1⟩

set_option maxHeartbeats 1000000 in
theorem set_c2 (t l mp i : Int) (Bh Bi : Nat) (w : World) (hH : Blk w Bh 60 (hcs t l mp)) (hI : Blk w Bi 3 #[.int .i64 i]) :
    Calls Tryz.prog 125 #[bx Bh, bx Bi] w (fun e w' => e = .returned (.int .i64 (unl (hasb l i) 7)) ∧ Up w w') := by
  have hl := Lib.hid (has_any t l mp i w)
  have R0 := (hH).cell
  have R1 := (hI).cell
  go_enter Tryz.func125, Tryz.ntmps125
  go_wp2_with (fail)
  refine hl.out.mono ?_
  rintro e w1 ⟨rfl, h1⟩
  go_wp2
  go_ret
  exact ⟨rfl, h1⟩

set_option maxHeartbeats 1000000 in
theorem get_c3 (m : Me) (a i x : Int) (P Q : Addr) (c d Bm Ba Bi Bv : Nat) (w : World) (ha : U64 a) (h0 : 0 ≤ i) (h2 : a + 2 + i ≤ 18446744073709551615) (n1 : Bm ≠ Bv) (n2 : Ba ≠ Bv) (n3 : Bi ≠ Bv)
    (hM : Box w Bm m P Q c d) (hA : Blk w Ba 54 #[.int .u64 a]) (hI : Blk w Bi 3 #[.int .i64 i]) (hV : Blk w Bv 54 #[.int .u64 x]) :
    Calls Tryz.prog 119 #[bx Bm, bx Ba, bx Bi, bx Bv] w (CellPost Bv 54 #[.int .u64 (m.ld (a + 2 + i))] (m.lde (a + 2 + i)) w) := by
  have hf := Lib.hid (fun w => field_any a i w ha.1 h0 h2)
  have hl := Lib.hid (fun (W : World) (h : Up w.drew W) => load_any m (a + 2 + i) P Q c d W ((hM.2.up (Up.refl w).drew).up h) ⟨by have := ha.1; omega, h2⟩)
  have M0 := hM.1.drew
  have A0 := hA.drew
  have I0 := hI.drew
  have V0 := hV.drew
  have U0 := Up.refl w.drew
  have UW := (Up.refl w).drew
  generalize a + 2 + i = b at hf hl ⊢
  clear hM hA hI hV ha h0 h2
  go_enter Tryz.func119, Tryz.ntmps119
  go_wp2_with (fail)
  go_region_held3 (fun w' => (∀ i, w'.cell? ⟨Bm, i, none⟩ = (#[.int .i64 m.n, .slice (some P) m.n c, .slice (some Q) m.n d] : Array Value)[i]?) ∧ (∀ j, w'.cell? ⟨Ba, j, none⟩ = (#[.int .u64 a] : Array Value)[j]?) ∧ (∀ j, w'.cell? ⟨Bi, j, none⟩ = (#[.int .i64 i] : Array Value)[j]?))
    (first
      | exact ⟨fun i => (Blk.up M0 (by assumption)).cell i, fun i => (Blk.up A0 (by assumption)).cell i, fun i => (Blk.up I0 (by assumption)).cell i⟩
      | exact ⟨fun i => ((Blk.up M0 (by assumption)).far n1 _).cell i, fun i => ((Blk.up A0 (by assumption)).far n2 _).cell i, fun i => ((Blk.up I0 (by assumption)).far n3 _).cell i⟩)
    (first
      | (go_at_call 120; ((with_reducible refine (hf.out _).mono ?_); rintro e wz ⟨rfl, hz⟩; have UZ := Up.trans (a := w.drew) (by assumption) hz))
      | (go_at_call 109; ((with_reducible refine (hl.out _ (by assumption)).mono ?_); rintro e wz ⟨rfl, hz⟩; have UZ := Up.trans (a := w.drew) (by assumption) hz; have VZ := V0.up UZ; have VZc := VZ.cell; have VZf := VZ.frozen; have VZl := VZ.lt)))
  all_goals
    go_wp2
    go_ret
    exact ⟨rfl, (Kp.of_up (UW.trans UZ)).set_ (by simp) _, VZ.set_ 0 _⟩

set_option maxHeartbeats 1000000 in
theorem set_c3 (m : Me) (a i v : Int) (x0 x1 x2 : Value) (P Q : Addr) (c d Bm Ba Bi Bv Bo : Nat) (w : World) (ha : U64 a) (h0 : 0 ≤ i) (h2 : a + 2 + i ≤ 18446744073709551615) (n1 : Bm ≠ Bo) (n2 : Ba ≠ Bo) (n3 : Bi ≠ Bo) (n4 : Bv ≠ Bo)
    (hM : Box w Bm m P Q c d) (hA : Blk w Ba 54 #[.int .u64 a]) (hI : Blk w Bi 3 #[.int .i64 i]) (hV : Blk w Bv 54 #[.int .u64 v]) (hO : Blk w Bo 25 #[x0, x1, x2]) :
    Calls Tryz.prog 126 #[bx Bm, bx Ba, bx Bi, bx Bv, bx Bo] w (OutPost Bo (m.st (a + 2 + i) v) (m.lde (a + 2 + i)) w) := by
  have hf := Lib.hid (fun w => field_any a i w ha.1 h0 h2)
  have hl := Lib.hid (fun (W : World) (h : Up w.drew W) => store_any m (a + 2 + i) v P Q c d W ((hM.2.up (Up.refl w).drew).up h) ⟨by have := ha.1; omega, h2⟩)
  have M0 := hM.1.drew
  have A0 := hA.drew
  have I0 := hI.drew
  have V0 := hV.drew
  have O0 := hO.drew
  have U0 := Up.refl w.drew
  have UW := (Up.refl w).drew
  generalize m.st (a + 2 + i) v = K at hl ⊢
  generalize a + 2 + i = b at hf hl ⊢
  clear hM hA hI hV hO ha h0 h2
  go_enter Tryz.func126, Tryz.ntmps126
  go_wp2_with (fail)
  go_region_held3 (fun w' => (∀ i, w'.cell? ⟨Bm, i, none⟩ = (#[.int .i64 m.n, .slice (some P) m.n c, .slice (some Q) m.n d] : Array Value)[i]?) ∧ (∀ j, w'.cell? ⟨Ba, j, none⟩ = (#[.int .u64 a] : Array Value)[j]?) ∧ (∀ j, w'.cell? ⟨Bi, j, none⟩ = (#[.int .i64 i] : Array Value)[j]?) ∧ (∀ j, w'.cell? ⟨Bv, j, none⟩ = (#[.int .u64 v] : Array Value)[j]?))
    (first
      | exact ⟨fun i => (Blk.up M0 (by assumption)).cell i, fun i => (Blk.up A0 (by assumption)).cell i, fun i => (Blk.up I0 (by assumption)).cell i, fun i => (Blk.up V0 (by assumption)).cell i⟩
      | exact ⟨fun i => ((((Blk.up M0 (by assumption)).far n1 _).far n1 _).far n1 _).cell i, fun i => ((((Blk.up A0 (by assumption)).far n2 _).far n2 _).far n2 _).cell i, fun i => ((((Blk.up I0 (by assumption)).far n3 _).far n3 _).far n3 _).cell i, fun i => ((((Blk.up V0 (by assumption)).far n4 _).far n4 _).far n4 _).cell i⟩)
    (first
      | (go_at_call 120; ((with_reducible refine (hf.out _).mono ?_); rintro e wz ⟨rfl, hz⟩; have UZ := Up.trans (a := w.drew) (by assumption) hz))
      | (go_at_call 127; ((with_reducible refine (hl.out _ (by assumption)).mono ?_); rintro e wz ⟨P', Q', c', d', rfl, sz, hz⟩; have UZ := Up.trans (a := w.drew) (by assumption) hz; have OZ := O0.up UZ; have OZc := OZ.cell; have OZf := OZ.frozen; have OZl := OZ.lt)))
  all_goals
    go_wp2
    go_ret
    exact ⟨rfl, (Kp.of_up (UW.trans UZ)).set3 (by simp) _ _ _, P', Q', c', d', OZ.set3 _ _ _, sz.far3 OZ _ _ _⟩


end Go.Proofs.YtddoljfkbkbfjaaGreat
/-! Of stage 5 -/
namespace Go.Proofs.YtddoljfkbkbfjaaGreat
open Go.ChangeShapes Go.WideShapes Go.ChangeAt Go.RowKit
set_option linter.unusedVariables false
set_option linter.unusedSimpArgs false

/-- What the row of Get comes to. -/
def GetPhi (m : Me) (a i : Int) (Bh Bv : Nat) (x : Int) (w' : World) : Prop := x = m.gete a i ∧ (x = 0 → Blk w' Bh 60 (hcs (m.att a) (m.atl a) (m.atm a)) ∧ Blk w' Bv 54 #[.int .u64 (m.ld (a + 2 + i))])
theorem get_run (m : Me) (a i : Int) (P Q : Addr) (c d Bm Ba Bi Bh Bv : Nat) (w : World) (ha : U64 a) (hwf : m.wf) (h1 : Bm < Ba) (h2 : Ba < Bi) (h3 : Bi < Bh) (h4 : Bh < Bv)
    (hM : Box w Bm m P Q c d) (hA : Blk w Ba 54 #[.int .u64 a]) (hI : Blk w Bi 3 #[.int .i64 i]) (hH : Blk w Bh 60 (hcs 0 0 0)) (hV : Blk w Bv 54 #[.int .u64 0]) :
    Run [Bh, Bv] (GetPhi m a i Bh Bv) [(115, #[bx Bm, bx Ba, bx Bh]), (117, #[bx Bh, bx Bi]), (119, #[bx Bm, bx Ba, bx Bi, bx Bv])] w := by
  refine ⟨Tryz.call115, fun w0 u0 => ?_⟩
  refine (get_c1 m a 0 0 0 P Q c d Bm Ba Bh w0 ha hwf (hM.up u0) (hA.up u0) (hH.up u0)).mono ?_
  rintro e w1 ⟨rfl, k1, H1⟩
  have T1 := Tiny.one (hH.up u0)
  have M1 := (hM.up u0).kp k1 (by simp; omega) T1
  have A1 := (hA.up u0).kp k1 (by simp; omega)
  have I1 := (hI.up u0).kp k1 (by simp; omega)
  have V1 := (hV.up u0).kp k1 (by simp; omega)
  refine ⟨_, rfl, k1.mono (by simp), fun hx w2 u2 => ⟨(if_neg hx).symm, fun q => absurd q hx⟩, fun hx => ?_⟩
  refine ⟨Tryz.call117, fun w2 u2 => ?_⟩
  refine (get_c2 _ _ _ i Bh Bi w2 (H1.up u2) (I1.up u2)).mono ?_
  rintro e w3 ⟨rfl, u3⟩
  refine ⟨_, rfl, .of_up u3, fun hy w4 u4 => ⟨(if_pos hx).symm, fun q => absurd q hy⟩, fun hy => ?_⟩
  have hok : m.fok a i := ⟨hx, by
    cases h : hasb (m.atl a) i
    · rw [h] at hy; cases hy
    · rfl⟩
  obtain ⟨ht, i0, i1, b0, b1⟩ := fok_off hM.2.1.2.1 hok
  refine ⟨Tryz.call119, fun w4 u4 => ?_⟩
  refine (get_c3 m a i 0 P Q c d Bm Ba Bi Bv w4 ha i0 b1 (by omega) (by omega) (by omega) (((M1.up u2).up u3).up u4) (((A1.up u2).up u3).up u4) (((I1.up u2).up u3).up u4) (((V1.up u2).up u3).up u4)).mono ?_
  rintro e w5 ⟨rfl, k5, V5⟩
  have H5 := (((H1.up u2).up u3).up u4).kp k5 (by simp; omega)
  have hz : m.lde (a + 2 + i) = 0 := if_pos ht
  refine ⟨_, rfl, k5.mono (by simp), fun hq => absurd hz hq, fun _ w6 u6 => ⟨(gete_0.2 hok).symm, fun _ => ⟨H5.up u6, V5.up u6⟩⟩⟩

set_option maxHeartbeats 2000000 in
theorem get_any (m : Me) (a i : Int) (P Q : Addr) (c d : Nat) (w : World) (hm : Sits w m P Q c d) (ha : U64 a) (hwf : m.wf) :
    Calls Tryz.prog 97 #[.agg #[.int .i64 m.n, .slice (some P) m.n c, .slice (some Q) m.n d], .int .u64 a, .int .i64 i] w fun e w' => e = .returned (.tuple #[.int .u64 (m.getv a i), .bool (m.getb a i), .int .i64 (m.gete a i)]) ∧ Up w w' := by
  have HR := Lib.hid (get_run m a i P Q c d)
  have HM := Lib.hid hm
  have HW := Lib.hid hwf
  have HA := Lib.hid ha
  clear hm hwf ha
  go_enter Tryz.func97, Tryz.ntmps97
  go_wp2_with (fail)
  refine calls_at (fun Wz0 hWz0 => ?_)
  have M0 : Blk Wz0 (w.heap.size) 25 #[.int .i64 m.n, .slice (some P) m.n c, .slice (some Q) m.n d] := by rw [hWz0]; exact ((((((Blk.new' _ (by simp) _ _).alloc _).alloc _).alloc _).alloc _).alloc _)
  have A0 : Blk Wz0 (w.heap.size + 1) 54 #[.int .u64 a] := by rw [hWz0]; exact (((((Blk.new' _ (by simp) _ _).alloc _).alloc _).alloc _).alloc _)
  have I0 : Blk Wz0 (w.heap.size + 1 + 1) 3 #[.int .i64 i] := by rw [hWz0]; exact ((((Blk.new' _ (by simp) _ _).alloc _).alloc _).alloc _)
  have H0 : Blk Wz0 (w.heap.size + 1 + 1 + 1) 60 #[.int .i64 0, .int .i64 0, .int .u64 0] := by rw [hWz0]; exact (((Blk.new' _ (by simp) _ _).alloc _).alloc _)
  have V0 : Blk Wz0 (w.heap.size + 1 + 1 + 1 + 1) 54 #[.int .u64 0] := by rw [hWz0]; exact ((Blk.new' _ (by simp) _ _).alloc _)
  have G0 : Blk Wz0 (w.heap.size + 1 + 1 + 1 + 1 + 1) 114 (List.map fnv [(115, #[bx (w.heap.size), bx (w.heap.size + 1), bx (w.heap.size + 1 + 1 + 1)]), (117, #[bx (w.heap.size + 1 + 1 + 1), bx (w.heap.size + 1 + 1)]), (119, #[bx (w.heap.size), bx (w.heap.size + 1), bx (w.heap.size + 1 + 1), bx (w.heap.size + 1 + 1 + 1 + 1)])]).toArray := by rw [hWz0]; exact Blk.new' _ (by simp) _ _
  have U0 : Up w Wz0 := by rw [hWz0]; exact (((((((Up.refl w).alloc _).alloc _).alloc _).alloc _).alloc _).alloc _)
  clear hWz0
  refine (do_any [(w.heap.size + 1 + 1 + 1), (w.heap.size + 1 + 1 + 1 + 1)] (GetPhi m a i (w.heap.size + 1 + 1 + 1) (w.heap.size + 1 + 1 + 1 + 1)) _ (w.heap.size + 1 + 1 + 1 + 1 + 1) Wz0 (by simp) (by simp <;> omega) G0 (HR.out _ _ _ _ _ _ HA.out HW.out (by omega) (by omega) (by omega) (by omega) ⟨M0, HM.out.up U0⟩ A0 I0 H0 V0)).mono ?_
  clear G0 M0 A0 H0 V0
  rintro e w1 ⟨x, rfl, k1, hx, hH⟩
  have HX := Lib.hid hx
  have I1 := I0.kp k1 (by simp <;> omega)
  have U1 := U0.kp k1 (by simp; omega)
  clear I0 U0 hx
  by_cases h : x = 0
  · subst h
    obtain ⟨H1, V1⟩ := hH rfl
    have hok := gete_0.1 HX.out.symm
    have HE := Lib.hid (show m.getv a i = m.ld (a + 2 + i) ∧ m.getb a i = ptb (m.atl a) (m.atm a) i from ⟨if_pos hok, if_pos hok⟩)
    have hp := Lib.hid (fun w => ptr_any (m.att a) (m.atl a) (m.atm a) i (atm_nn m a) (by have := atm_hi m a; omega) (by have := (fok_off HM.out.1.2.1 hok).2.2.1; have := atl_16 hok.1; omega) w)
    have H2 := H1.drew
    have V2 := V1.drew
    have I2 := I1.drew
    have U2 := U1.drew
    have UU := Up.refl w1.drew
    clear hH hok H1 V1 I1 U1
    go_wp2_with (fail)
    go_region_held3 (fun w' => (∀ j, w'.cell? ⟨(w.heap.size + 1 + 1 + 1), j, none⟩ = (hcs (m.att a) (m.atl a) (m.atm a) : Array Value)[j]?) ∧ (∀ j, w'.cell? ⟨(w.heap.size + 1 + 1 + 1 + 1), j, none⟩ = (#[.int .u64 (m.ld (a + 2 + i))] : Array Value)[j]?) ∧ (∀ j, w'.cell? ⟨(w.heap.size + 1 + 1), j, none⟩ = (#[.int .i64 i] : Array Value)[j]?))
      (exact ⟨fun i => (Blk.up H2 (by assumption)).cell i, fun i => (Blk.up V2 (by assumption)).cell i, fun i => (Blk.up I2 (by assumption)).cell i⟩)
      (first
        | (go_at_call 121; ((with_reducible refine (hp.out _).mono ?_); rintro e wz ⟨rfl, hz⟩; have UZ := Up.trans (a := w1.drew) (by assumption) hz)))
    all_goals
      go_wp2
      refine bodyPost_ret (v := .tuple #[.int .u64 (m.ld (a + 2 + i)), .bool (ptb (m.atl a) (m.atm a) i), .int .i64 0]) (by simp [results, Tryz.results97, go_sem]) rfl ⟨by rw [HE.out.1, HE.out.2, ← HX.out], U2.trans UZ⟩
  · have HN := Lib.hid (fun q => h (HX.out.trans (gete_0.2 q)))
    have hb : (x != 0) = true := bne_iff_ne.mpr h
    clear hH h
    go_wp2
    refine bodyPost_ret (v := .tuple #[.int .u64 0, .bool false, .int .i64 x]) (by simp [results, Tryz.results97, go_sem]) rfl ⟨by rw [← HX.out, show m.getv a i = 0 from if_neg HN.out, show m.getb a i = false from if_neg HN.out], U1⟩

/-- What the row of Set comes to. -/
def SetPhi (m : Me) (a i v : Int) (Bo : Nat) (x : Int) (w' : World) : Prop := x = m.gete a i ∧ ∃ P Q c d, Box w' Bo (m.setm a i v) P Q c d
theorem set_run (m : Me) (a i v : Int) (P Q : Addr) (c d Bm Ba Bi Bv Bh Bo : Nat) (w : World) (ha : U64 a) (hwf : m.wf) (h1 : Bm < Ba) (h2 : Ba < Bi) (h3 : Bi < Bv) (h4 : Bv < Bh) (h5 : Bh < Bo)
    (hM : Box w Bm m P Q c d) (hA : Blk w Ba 54 #[.int .u64 a]) (hI : Blk w Bi 3 #[.int .i64 i]) (hV : Blk w Bv 54 #[.int .u64 v]) (hH : Blk w Bh 60 (hcs 0 0 0)) (hO : Box w Bo m P Q c d) :
    Run [Bh, Bo] (SetPhi m a i v Bo) [(124, #[bx Bm, bx Ba, bx Bh]), (125, #[bx Bh, bx Bi]), (126, #[bx Bm, bx Ba, bx Bi, bx Bv, bx Bo])] w := by
  refine ⟨Tryz.call124, fun w0 u0 => ?_⟩
  refine (set_c1 m a 0 0 0 P Q c d Bm Ba Bh w0 ha hwf (hM.up u0) (hA.up u0) (hH.up u0)).mono ?_
  rintro e w1 ⟨rfl, k1, H1⟩
  have T1 := Tiny.one (hH.up u0)
  have M1 := (hM.up u0).kp k1 (by simp; omega) T1
  have A1 := (hA.up u0).kp k1 (by simp; omega)
  have I1 := (hI.up u0).kp k1 (by simp; omega)
  have V1 := (hV.up u0).kp k1 (by simp; omega)
  have O1 := (hO.up u0).kp k1 (by simp; omega) T1
  refine ⟨_, rfl, k1.mono (by simp), fun hx w2 u2 => ⟨(if_neg hx).symm, P, Q, c, d, by rw [show m.setm a i v = m from if_neg (fun q => hx q.1)]; exact O1.up u2⟩, fun hx => ?_⟩
  refine ⟨Tryz.call125, fun w2 u2 => ?_⟩
  refine (set_c2 _ _ _ i Bh Bi w2 (H1.up u2) (I1.up u2)).mono ?_
  rintro e w3 ⟨rfl, u3⟩
  refine ⟨_, rfl, .of_up u3, fun hy w4 u4 => ⟨(if_pos hx).symm, P, Q, c, d, by rw [show m.setm a i v = m from if_neg (fun q => hy ((congrArg (unl · 7) q.2).trans rfl))]; exact ((O1.up u2).up u3).up u4⟩, fun hy => ?_⟩
  have hok : m.fok a i := ⟨hx, by
    cases h : hasb (m.atl a) i
    · rw [h] at hy; cases hy
    · rfl⟩
  obtain ⟨ht, i0, i1, b0, b1⟩ := fok_off hM.2.1.2.1 hok
  refine ⟨Tryz.call126, fun w4 u4 => ?_⟩
  refine (set_c3 m a i v _ _ _ P Q c d Bm Ba Bi Bv Bo w4 ha i0 b1 (by omega) (by omega) (by omega) (by omega) (((M1.up u2).up u3).up u4) (((A1.up u2).up u3).up u4) (((I1.up u2).up u3).up u4) (((V1.up u2).up u3).up u4) (((O1.1.up u2).up u3).up u4)).mono ?_
  rintro e w5 ⟨rfl, k5, P', Q', c', d', O5⟩
  have hz : m.lde (a + 2 + i) = 0 := if_pos ht
  refine ⟨_, rfl, k5.mono (by simp), fun hq => absurd hz hq, fun _ w6 u6 => ⟨(gete_0.2 hok).symm, P', Q', c', d', ?_⟩⟩
  rw [show m.setm a i v = _ from if_pos hok]
  exact O5.up u6

set_option maxHeartbeats 2000000 in
theorem set_any (m : Me) (a i v : Int) (P Q : Addr) (c d : Nat) (w : World) (hm : Sits w m P Q c d) (ha : U64 a) (hwf : m.wf) :
    Calls Tryz.prog 101 #[.agg #[.int .i64 m.n, .slice (some P) m.n c, .slice (some Q) m.n d], .int .u64 a, .int .i64 i, .int .u64 v] w (Gives1 w (m.setm a i v) (.int .i64 (m.gete a i))) := by
  have HR := Lib.hid (set_run m a i v P Q c d)
  have HM := Lib.hid hm
  have HW := Lib.hid hwf
  have HA := Lib.hid ha
  generalize hK : m.setm a i v = K
  have HK := Lib.hid hK
  clear hm hwf ha hK
  go_enter Tryz.func101, Tryz.ntmps101
  go_wp2_with (fail)
  refine calls_at (fun Wz0 hWz0 => ?_)
  have M0 : Blk Wz0 (w.heap.size) 25 #[.int .i64 m.n, .slice (some P) m.n c, .slice (some Q) m.n d] := by rw [hWz0]; exact ((((((((Blk.new' _ (by simp) _ _).alloc _).alloc _).alloc _).alloc _).alloc _).alloc _).alloc _)
  have A0 : Blk Wz0 (w.heap.size + 1) 54 #[.int .u64 a] := by rw [hWz0]; exact (((((((Blk.new' _ (by simp) _ _).alloc _).alloc _).alloc _).alloc _).alloc _).alloc _)
  have I0 : Blk Wz0 (w.heap.size + 1 + 1) 3 #[.int .i64 i] := by rw [hWz0]; exact ((((((Blk.new' _ (by simp) _ _).alloc _).alloc _).alloc _).alloc _).alloc _)
  have V0 : Blk Wz0 (w.heap.size + 1 + 1 + 1) 54 #[.int .u64 v] := by rw [hWz0]; exact (((((Blk.new' _ (by simp) _ _).alloc _).alloc _).alloc _).alloc _)
  have R0 : Blk Wz0 (w.heap.size + 1 + 1 + 1 + 1) 25 #[.int .i64 0, .slice none 0 0, .slice none 0 0] := by rw [hWz0]; exact ((((Blk.new' _ (by simp) _ _).alloc _).alloc _).alloc _)
  have H0 : Blk Wz0 (w.heap.size + 1 + 1 + 1 + 1 + 1) 60 #[.int .i64 0, .int .i64 0, .int .u64 0] := by rw [hWz0]; exact (((Blk.new' _ (by simp) _ _).alloc _).alloc _)
  have O0 : Blk Wz0 (w.heap.size + 1 + 1 + 1 + 1 + 1 + 1) 25 #[.int .i64 m.n, .slice (some P) m.n c, .slice (some Q) m.n d] := by rw [hWz0]; exact ((Blk.new' _ (by simp) _ _).alloc _)
  have G0 : Blk Wz0 (w.heap.size + 1 + 1 + 1 + 1 + 1 + 1 + 1) 114 (List.map fnv [(124, #[bx (w.heap.size), bx (w.heap.size + 1), bx (w.heap.size + 1 + 1 + 1 + 1 + 1)]), (125, #[bx (w.heap.size + 1 + 1 + 1 + 1 + 1), bx (w.heap.size + 1 + 1)]), (126, #[bx (w.heap.size), bx (w.heap.size + 1), bx (w.heap.size + 1 + 1), bx (w.heap.size + 1 + 1 + 1), bx (w.heap.size + 1 + 1 + 1 + 1 + 1 + 1)])]).toArray := by rw [hWz0]; exact Blk.new' _ (by simp) _ _
  have U0 : Up w Wz0 := by rw [hWz0]; exact (((((((((Up.refl w).alloc _).alloc _).alloc _).alloc _).alloc _).alloc _).alloc _).alloc _)
  clear hWz0
  refine (do_any [(w.heap.size + 1 + 1 + 1 + 1 + 1), (w.heap.size + 1 + 1 + 1 + 1 + 1 + 1)] (SetPhi m a i v (w.heap.size + 1 + 1 + 1 + 1 + 1 + 1)) _ (w.heap.size + 1 + 1 + 1 + 1 + 1 + 1 + 1) Wz0 (by simp) (by simp <;> omega) G0 (HR.out _ _ _ _ _ _ _ HA.out HW.out (by omega) (by omega) (by omega) (by omega) (by omega) ⟨M0, HM.out.up U0⟩ A0 I0 V0 H0 ⟨O0, HM.out.up U0⟩)).mono ?_
  clear G0 M0 A0 I0 V0 H0 O0
  rintro e w1 ⟨x, rfl, k1, hx, P', Q', c', d', hO⟩
  rw [HK.out] at hO
  obtain ⟨O1, S1⟩ := hO
  have HX := Lib.hid hx
  have R1 := R0.kp k1 (by simp <;> omega)
  have U1 := U0.kp k1 (by simp; omega)
  clear R0 U0 hx
  have R1c := R1.cell
  have R1f := R1.frozen
  have R1l := R1.lt
  have O1c := O1.cell
  go_wp2
  refine bodyPost_ret (v := .tuple #[.agg #[.int .i64 K.n, .slice (some P') K.n c', .slice (some Q') K.n d'], .int .i64 x]) (by simp [results, Tryz.results101, go_sem, R1c, R1l]) rfl ⟨P', Q', c', d', by rw [← HX.out], ?_, ?_⟩
  · exact S1.far3 R1 _ _ _
  · exact U1.set3 (by omega) _ _ _


end Go.Proofs.YtddoljfkbkbfjaaGreat
/-! Of stage 5 -/
namespace Go.Proofs.YtddoljfkbkbfjaaGreat
open Go.ChangeShapes Go.WideShapes Go.ChangeAt Go.RowKit
set_option linter.unusedVariables false
set_option linter.unusedSimpArgs false

/-- The word of an object's twin is there. -/
theorem tw_off {m : Me} {a : Int} (hn : m.n ≤ 4096) (h : m.kne a = 0) : m.there (a + 1) ∧ 0 ≤ a + 1 ∧ a + 1 ≤ 18446744073709551615 := by
  obtain ⟨h3, h4⟩ := kne_inn h
  exact (inn_off (j := 1) hn h3 (by omega) (by omega)).2.2
def Me.twv (m : Me) (a : Int) : Int := if m.kne a = 0 then m.ld (a + 1) else 0
def Me.joinm (m : Me) (a b : Int) : Me := if m.kne a = 0 then m.sw (a + 1) 0 b else m
def Me.joinb (m : Me) (a : Int) : Bool := if m.kne a = 0 then m.swb (a + 1) 0 else false

/-- What the second closure of Join leaves. -/
def JoinPost (Bo Bj : Nat) (m : Me) (b : Bool) (x : Int) (w : World) (e : Ending) (w' : World) : Prop := e = .returned (.int .i64 x) ∧ Kp [Bo, Bj] w w' ∧ Blk w' Bj 4 #[.bool b] ∧ ∃ P Q c d, Box w' Bo m P Q c d
/-- What the row of Twin comes to. -/
def TwPhi (m : Me) (a : Int) (Bv : Nat) (x : Int) (w' : World) : Prop := x = m.kne a ∧ Blk w' Bv 54 #[.int .u64 (m.twv a)]
/-- What the row of Join comes to. -/
def JnPhi (m : Me) (a b : Int) (Bo Bj : Nat) (x : Int) (w' : World) : Prop := x = m.kne a ∧ Blk w' Bj 4 #[.bool (m.joinb a)] ∧ ∃ P Q c d, Box w' Bo (m.joinm a b) P Q c d

end Go.Proofs.YtddoljfkbkbfjaaGreat
/-! Of stage 5 -/
namespace Go.Proofs.YtddoljfkbkbfjaaGreat
open Go.ChangeShapes Go.WideShapes Go.ChangeAt Go.RowKit
set_option linter.unusedVariables false
set_option linter.unusedSimpArgs false

/-- The words behind the first one, so many, are 0. -/
def Me.zs (m : Me) (a : Int) : Nat → Me
  | 0 => m
  | k + 1 => (m.zs a k).st (a + (k + 1)) 0
theorem Me.zs_n (m : Me) (a : Int) (k : Nat) : (m.zs a k).n = m.n := by
  induction k with
  | zero => rfl
  | succ k ih => exact (Me.st_n _ _ _).trans ih
theorem Me.wf.zs {m : Me} (h : m.wf) (a : Int) (k : Nat) : (m.zs a k).wf := by
  induction k with
  | zero => exact h
  | succ k ih => exact ih.st u64_0 _
theorem set_same {l : List Int} {k : Nat} {v : Int} (hk : k < l.length) (h : l.getD k 0 = v) : l.set k v = l := by
  subst h
  simp [List.getD, List.getElem?_eq_getElem hk]
theorem Me.put_sp (m : Me) {s : Int} : m.put s (m.sp s) = m := by
  unfold Me.put Me.sp
  split <;> rfl
theorem st_same {m : Me} (hm : m.ok) {a v : Int} (ht : m.there a) (h : m.ld a = v) : m.st a v = m := by
  have h0 := ht.2
  have h1 := whp_nn a
  rw [show m.st a v = _ from if_pos ht, set_same (by rw [Me.len_sp hm]; omega) ((show m.ld a = _ from if_pos ht) ▸ h), Me.put_sp]

/-- Where the memory of a loop's round lies. -/
def BlkRel (m : Me) (a : Int) (L B : Nat) (w0 : World) (i : Value) (wr : World) : Prop := ∃ k : Nat, k ≤ L ∧ i = .int .i64 ((k + 1 : Nat) : Int) ∧ Kp [B] w0 wr ∧ ∃ P Q c d, Box wr B (m.zs a k) P Q c d

set_option maxHeartbeats 1000000 in
theorem blank_f (m : Me) (a l mp : Int) (P Q : Addr) (c d : Nat) (w : World) (hm : Sits w m P Q c d) :
    Calls Tryz.prog 166 #[.agg #[.int .i64 m.n, .slice (some P) m.n c, .slice (some Q) m.n d], .int .u64 a, hdv 255 l mp] w (Gives1 w m (.int .i64 0)) := by
  have HM := Lib.hid hm
  clear hm
  go_enter Tryz.func166, Tryz.ntmps166
  go_wp2
  refine bodyPost_ret (v := .tuple #[.agg #[.int .i64 m.n, .slice (some P) m.n c, .slice (some Q) m.n d], .int .i64 0]) (by simp [results, Tryz.results166, go_sem]) rfl ⟨P, Q, c, d, rfl, ?_, ?_⟩
  · exact HM.out.up ((((Up.refl _).alloc _).alloc _).alloc _)
  · exact (((Up.refl _).alloc _).alloc _).alloc _

set_option maxHeartbeats 4000000 in
theorem blank_o (m : Me) (a t l mp : Int) (P Q : Addr) (c d : Nat) (w : World) (hm : Sits w m P Q c d) (ha : U64 a) (hmp : 0 ≤ mp) (hh : rte t l mp = 0) (ht : t ≠ 255) (hi : m.inn a (wdn t l)) :
    Calls Tryz.prog 166 #[.agg #[.int .i64 m.n, .slice (some P) m.n c, .slice (some Q) m.n d], .int .u64 a, hdv t l mp] w (Gives1 w (m.zs a (l + 1).toNat) (.int .i64 0)) := by
  have HM := Lib.hid hm
  have hw := Lib.hid (fun w => words_any t l mp hmp hh w)
  obtain ⟨L, hL, hL2, hL3⟩ : ∃ L : Nat, wdn t l = L + 1 ∧ (l + 1).toNat = L ∧ L ≤ 17 := by
    have h := rte_small hmp hh
    refine ⟨(l + 1).toNat, ?_, rfl, by omega⟩
    rw [show wdn t l = l + 2 from if_neg ht]
    omega
  rw [hL] at hw hi
  rw [hL2]
  have hoff := Lib.hid (fun (k : Nat) (hk : k < L) => (inn_off (j := (k + 1 : Int)) hm.1.2.1 hi (by omega) (by omega)).2.2)
  have hs := Lib.hid (fun (w : World) (g k : Nat) (hk : k < L) (hb : Blk w g 3 #[.int .i64 (k + 1)]) => sum_1 a (k + 1) g w ha.1 (by omega) (hoff.out k hk).2.2 hb)
  have hb : (t == 255) = false := beq_eq_false_iff_ne.mpr ht
  clear hm ha hmp hh ht hi hL hL2
  go_enter Tryz.func166, Tryz.ntmps166
  go_wp2_with (fail)
  generalize hW0 : ((w.alloc (.cells #[.int .i64 m.n, .slice (some P) m.n c, .slice (some Q) m.n d] 25)).alloc (.cells #[.int .i64 t, .int .i64 l, .int .u64 mp] 60)).alloc (.cells #[.int .i64 0, .slice none 0 0, .slice none 0 0] 25) = W0
  have M0 : Blk W0 w.heap.size 25 #[.int .i64 m.n, .slice (some P) m.n c, .slice (some Q) m.n d] := by rw [← hW0]; exact (((Blk.new' _ (by simp) _ _).alloc _).alloc _)
  have H0 : Blk W0 (w.heap.size + 1) 60 #[.int .i64 t, .int .i64 l, .int .u64 mp] := by rw [← hW0]; exact (Blk.new' _ (by simp) _ _).alloc _
  have R0 : Blk W0 (w.heap.size + 1 + 1) 25 #[.int .i64 0, .slice none 0 0, .slice none 0 0] := by rw [← hW0]; exact Blk.new' _ (by simp) _ _
  have U0 : Up w W0 := by rw [← hW0]; exact ((((Up.refl w).alloc _).alloc _).alloc _)
  clear hW0
  go_loopw [8] (BlkRel m a L w.heap.size W0) (fun i _ => L + 1 - (intOf i).toNat)
  case atStart => exact ⟨0, Nat.zero_le _, rfl, Kp.refl _ _, P, Q, c, d, M0, HM.out.up U0⟩
  case round =>
    obtain ⟨k, hk, rfl, hK, P1, Q1, c1, d1, hM⟩ := hrel
    have U1 := U0.kp hK (by simp)
    have M1 := hM.1
    have S1 := hM.2
    have H1 := H0.kp hK (by simp)
    have R1 := R0.kp hK (by simp <;> omega)
    have H1c := H1.cell
    have R1c := R1.cell
    have R1f := R1.frozen
    have R1l := R1.lt
    have M1c := M1.cell
    have M1f := M1.frozen
    have M1l := M1.lt
    by_cases hlt : k < L
    · obtain ⟨ht, b0, b1⟩ := hoff.out k hlt
      obtain ⟨N, hNe⟩ : ∃ N, m.zs a k = N := ⟨_, rfl⟩
      have hNn : N.n = m.n := by rw [← hNe]; exact Me.zs_n m a k
      rw [hNe] at M1 S1 M1c
      have htN : N.there (a + (k + 1)) := (there_n hNn _).2 ht
      by_cases hv : N.ld (a + (k + 1)) = 0
      · have hl := Lib.hid (fun (W : World) (hS : Sits W N P1 Q1 c1 d1) => show Calls Tryz.prog 109 #[.agg #[.int .i64 N.n, .slice (some P1) N.n c1, .slice (some Q1) N.n d1], .int .u64 (a + (k + 1))] W fun e w' => e = .returned (.tuple #[.int .u64 0, .int .i64 0]) ∧ Up W w' from by
          have h := load_any N (a + (k + 1)) P1 Q1 c1 d1 W hS ⟨b0, b1⟩
          rw [hv, show N.lde (a + (k + 1)) = 0 from if_pos htN] at h
          exact h)
        have hN := Lib.hid (show m.zs a (k + 1) = N from by
          show (m.zs a k).st (a + (k + 1)) 0 = N
          rw [hNe, st_same S1.1 htN hv])
        clear hM hNe hNn htN hv ht b0 b1
        go_wp2_with (fail)
        refine (hw.out _).mono ?_
        rintro e w2 ⟨rfl, h2⟩
        have M2 := M1.up h2
        have R2 := R1.up h2
        have S2 := S1.up h2
        have U2 := U1.trans h2
        have K2 := hK.up h2
        clear h2 M1c M1f M1l R1c R1f R1l H1c H1 M1 R1 S1 U1 hK
        have M2c := M2.cell
        have M2f := M2.frozen
        have M2l := M2.lt
        have R2c := R2.cell
        have R2f := R2.frozen
        have R2l := R2.lt
        go_wp2_with (fail)
        refine (hs.out _ _ k hlt (Blk.new w2 3 #[.int .i64 (k + 1)])).mono ?_
        rintro e w3 ⟨rfl, rfl⟩
        go_wp2_with (fail)
        refine (hl.out _ (S2.up ((Up.refl _).alloc _))).mono ?_
        rintro e w4 ⟨rfl, h4⟩
        have u4 := ((Up.refl w2).alloc (.cells #[.int .i64 (k + 1)] 3)).trans h4
        have M4 := M2.up u4
        have R4 := R2.up u4
        have S4 := S2.up u4
        have U4 := U2.trans u4
        have K4 := K2.up u4
        clear h4 u4 M2c M2f M2l R2c R2f R2l M2 R2 S2 U2 K2
        have M4c := M4.cell
        have M4f := M4.frozen
        have M4l := M4.lt
        have R4c := R4.cell
        have R4f := R4.frozen
        have R4l := R4.lt
        go_wp2
        refine ⟨⟨k + 1, hlt, by go_num, K4, P1, Q1, c1, d1, ?_⟩, by simp [intOf]; omega⟩
        rw [hN.out]
        exact ⟨M4, S4⟩
      · have hl := Lib.hid (fun (W : World) (hS : Sits W N P1 Q1 c1 d1) => show Calls Tryz.prog 109 #[.agg #[.int .i64 N.n, .slice (some P1) N.n c1, .slice (some Q1) N.n d1], .int .u64 (a + (k + 1))] W fun e w' => e = .returned (.tuple #[.int .u64 (N.ld (a + (k + 1))), .int .i64 0]) ∧ Up W w' from by
          have h := load_any N (a + (k + 1)) P1 Q1 c1 d1 W hS ⟨b0, b1⟩
          rw [show N.lde (a + (k + 1)) = 0 from if_pos htN] at h
          exact h)
        have hst := Lib.hid (fun (W : World) (hS : Sits W N P1 Q1 c1 d1) => show Calls Tryz.prog 127 #[.agg #[.int .i64 N.n, .slice (some P1) N.n c1, .slice (some Q1) N.n d1], .int .u64 (a + (k + 1)), .int .u64 0] W (Gives1 W (N.st (a + (k + 1)) 0) (.int .i64 0)) from by
          have h := store_any N (a + (k + 1)) 0 P1 Q1 c1 d1 W hS ⟨b0, b1⟩
          rw [show N.lde (a + (k + 1)) = 0 from if_pos htN] at h
          exact h)
        have hvb : (N.ld (a + (k + 1)) != 0) = true := bne_iff_ne.mpr hv
        obtain ⟨N', hN'⟩ : ∃ N', N.st (a + (k + 1)) 0 = N' := ⟨_, rfl⟩
        have hN := Lib.hid (show m.zs a (k + 1) = N' from by
          show (m.zs a k).st (a + (k + 1)) 0 = N'
          rw [hNe, hN'])
        rw [hN'] at hst
        generalize N.ld (a + (k + 1)) = v at hl hvb
        clear hM hNe hNn htN hv ht b0 b1 hN'
        go_wp2_with (fail)
        refine (hw.out _).mono ?_
        rintro e w2 ⟨rfl, h2⟩
        have M2 := M1.up h2
        have R2 := R1.up h2
        have S2 := S1.up h2
        have U2 := U1.trans h2
        have K2 := hK.up h2
        clear h2 M1c M1f M1l R1c R1f R1l H1c H1 M1 R1 S1 U1 hK
        have M2c := M2.cell
        have M2f := M2.frozen
        have M2l := M2.lt
        have R2c := R2.cell
        have R2f := R2.frozen
        have R2l := R2.lt
        go_wp2_with (fail)
        refine (hs.out _ _ k hlt (Blk.new w2 3 #[.int .i64 (k + 1)])).mono ?_
        rintro e w3 ⟨rfl, rfl⟩
        go_wp2_with (fail)
        refine (hl.out _ (S2.up ((Up.refl _).alloc _))).mono ?_
        rintro e w4 ⟨rfl, h4⟩
        have u4 := ((Up.refl w2).alloc (.cells #[.int .i64 (k + 1)] 3)).trans h4
        have M4 := M2.up u4
        have R4 := R2.up u4
        have S4 := S2.up u4
        have U4 := U2.trans u4
        have K4 := K2.up u4
        clear h4 u4 M2c M2f M2l R2c R2f R2l M2 R2 S2 U2 K2
        have M4c := M4.cell
        have M4f := M4.frozen
        have M4l := M4.lt
        have R4c := R4.cell
        have R4f := R4.frozen
        have R4l := R4.lt
        go_wp2_with (fail)
        refine (hst.out _ S4).mono ?_
        rintro e w5 ⟨P5, Q5, c5, d5, rfl, S5, h5⟩
        have M5 := M4.up h5
        have R5 := R4.up h5
        have U5 := U4.trans h5
        have K5 := K4.up h5
        clear h5 M4c M4f M4l R4c R4f R4l M4 R4 S4 U4 K4
        have M5c := M5.cell
        have M5f := M5.frozen
        have M5l := M5.lt
        have R5c := R5.cell
        have R5f := R5.frozen
        have R5l := R5.lt
        go_wp2
        refine ⟨⟨k + 1, hlt, by go_num, K5.set3 (by simp) _ _ _, P5, Q5, c5, d5, ?_⟩, by simp [intOf]; omega⟩
        rw [hN.out]
        exact ⟨M5.set3 _ _ _, S5.far3 M5 _ _ _⟩
    · obtain rfl : k = L := by omega
      go_wp2_with (fail)
      refine (hw.out _).mono ?_
      rintro e w2 ⟨rfl, h2⟩
      have M2 := M1.up h2
      have R2 := R1.up h2
      have S2 := S1.up h2
      have U2 := U1.trans h2
      clear h2 M1c M1f M1l R1c R1f R1l
      have M2c := M2.cell
      have M2f := M2.frozen
      have M2l := M2.lt
      have R2c := R2.cell
      have R2f := R2.frozen
      have R2l := R2.lt
      go_wp2
      refine bodyPost_ret (v := .tuple #[.agg #[.int .i64 (m.zs a k).n, .slice (some P1) (m.zs a k).n c1, .slice (some Q1) (m.zs a k).n d1], .int .i64 0]) (by simp [results, Tryz.results166, go_sem, R2c, R2l]) rfl ⟨P1, Q1, c1, d1, rfl, S2.far3 R2 _ _ _, U2.set3 (by omega) _ _ _⟩


end Go.Proofs.YtddoljfkbkbfjaaGreat
/-! Of stage 5 -/
namespace Go.Proofs.YtddoljfkbkbfjaaGreat
open Go.ChangeShapes Go.WideShapes Go.ChangeAt Go.RowKit
set_option linter.unusedVariables false
set_option linter.unusedSimpArgs false

/-- All words but the first one are 0, unless it is a filler. -/
def Me.blk (m : Me) (a t l : Int) : Me := if t = 255 then m else m.zs a (l + 1).toNat
theorem blank_any (m : Me) (a t l mp : Int) (P Q : Addr) (c d : Nat) (w : World) (hm : Sits w m P Q c d) (ha : U64 a) (hmp : 0 ≤ mp) (hh : rte t l mp = 0) (hi : m.inn a (wdn t l)) :
    Calls Tryz.prog 166 #[.agg #[.int .i64 m.n, .slice (some P) m.n c, .slice (some Q) m.n d], .int .u64 a, hdv t l mp] w (Gives1 w (m.blk a t l) (.int .i64 0)) := by
  by_cases ht : t = 255
  · rw [show m.blk a t l = m from if_pos ht]
    subst ht
    exact blank_f m a l mp P Q c d w hm
  · rw [show m.blk a t l = _ from if_neg ht]
    exact blank_o m a t l mp P Q c d w hm ha hmp hh ht hi
/-- What is put, and why not. -/
def Me.pok (m : Me) (a t l mp : Int) : Prop := rte t l mp = 0 ∧ m.inn a (wdn t l)
instance decPok (m : Me) (a t l mp : Int) : Decidable (m.pok a t l mp) := by unfold Me.pok; infer_instance
def Me.pute (m : Me) (a t l mp : Int) : Int := if rte t l mp = 0 then unl (decide (m.inn a (wdn t l))) 2 else rte t l mp
theorem pute_0 {m : Me} {a t l mp : Int} : m.pute a t l mp = 0 ↔ m.pok a t l mp := by
  unfold Me.pute Me.pok
  by_cases h : rte t l mp = 0
  · rw [if_pos h]
    by_cases k : m.inn a (wdn t l) <;> simp [k, h, unl]
  · rw [if_neg h]
    exact ⟨fun q => absurd q h, fun q => absurd q.1 h⟩
def Me.putm (m : Me) (a t l mp : Int) : Me := if m.pok a t l mp then (m.st a (wrd t l mp)).blk a t l else m
theorem pok_there {m : Me} {a t l mp : Int} (hmp : 0 ≤ mp) (h : m.pok a t l mp) : m.there a := ⟨h.2.1, by have := h.2.2; have := (wdn_small hmp h.1).1; omega⟩

set_option maxHeartbeats 1000000 in
theorem put_c1 (t l mp x : Int) (Bh Bw : Nat) (w : World) (hmp : 0 ≤ mp) (hH : Blk w Bh 60 (hcs t l mp)) (hW : Blk w Bw 54 #[.int .u64 x]) :
    Calls Tryz.prog 161 #[bx Bh, bx Bw] w (CellPost Bw 54 #[.int .u64 (wov t l mp)] (rte t l mp) w) := by
  have hl := Lib.hid (word_any t l mp hmp w)
  have R0 := (hH).cell
  go_enter Tryz.func161, Tryz.ntmps161
  go_wp2_with (fail)
  refine hl.out.mono ?_
  rintro e w1 ⟨rfl, h1⟩
  have W1 := hW.up h1
  have K1 := Kp.of_up (S := [Bw]) h1
  have W1c := W1.cell
  have W1f := W1.frozen
  have W1l := W1.lt
  clear h1 hW
  go_wp2
  go_ret
  exact ⟨rfl, K1.set_ (by simp) _, W1.set_ 0 _⟩

set_option maxHeartbeats 1000000 in
theorem put_c2 (m : Me) (a t l mp : Int) (P Q : Addr) (c d Bm Ba Bh : Nat) (w : World) (ha : U64 a) (hmp : 0 ≤ mp) (hh : rte t l mp = 0) (hM : Box w Bm m P Q c d) (hA : Blk w Ba 54 #[.int .u64 a]) (hH : Blk w Bh 60 (hcs t l mp)) :
    Calls Tryz.prog 163 #[bx Bm, bx Ba, bx Bh] w (fun e w' => e = .returned (.int .i64 (unl (decide (m.inn a (wdn t l))) 2)) ∧ Up w w') := by
  have hl := Lib.hid (there_any m a t l mp P Q c d w hM.2.1.2.1 ha hmp hh)
  have R0 := (hM.1).cell
  have R1 := (hA).cell
  have R2 := (hH).cell
  go_enter Tryz.func163, Tryz.ntmps163
  go_wp2_with (fail)
  refine hl.out.mono ?_
  rintro e w1 ⟨rfl, h1⟩
  go_wp2
  go_ret
  exact ⟨rfl, h1⟩

set_option maxHeartbeats 1000000 in
theorem put_c3 (m : Me) (a v : Int) (x0 x1 x2 : Value) (P Q : Addr) (c d Bm Ba Bw Bo : Nat) (w : World) (ha : U64 a) (hM : Box w Bm m P Q c d) (hA : Blk w Ba 54 #[.int .u64 a]) (hW : Blk w Bw 54 #[.int .u64 v]) (hO : Blk w Bo 25 #[x0, x1, x2]) :
    Calls Tryz.prog 164 #[bx Bm, bx Ba, bx Bw, bx Bo] w (OutPost Bo (m.st a v) (m.lde a) w) := by
  have hl := Lib.hid (store_any m a v P Q c d w hM.2 ha)
  have R0 := (hM.1).cell
  have R1 := (hA).cell
  have R2 := (hW).cell
  generalize m.st a v = K at hl ⊢
  go_enter Tryz.func164, Tryz.ntmps164
  go_wp2_with (fail)
  refine hl.out.mono ?_
  rintro e w1 ⟨P', Q', c', d', rfl, s1, h1⟩
  have W1 := hO.up h1
  have K1 := Kp.of_up (S := [Bo]) h1
  have W1c := W1.cell
  have W1f := W1.frozen
  have W1l := W1.lt
  clear h1 hO
  go_wp2
  go_ret
  exact ⟨rfl, K1.set3 (by simp) _ _ _, P', Q', c', d', W1.set3 _ _ _, s1.far3 W1 _ _ _⟩

set_option maxHeartbeats 1000000 in
theorem put_c4 (m : Me) (a t l mp : Int) (P Q : Addr) (c d Bo Ba Bh : Nat) (w : World) (ha : U64 a) (hmp : 0 ≤ mp) (hh : rte t l mp = 0) (hi : m.inn a (wdn t l)) (hM : Box w Bo m P Q c d) (hA : Blk w Ba 54 #[.int .u64 a]) (hH : Blk w Bh 60 (hcs t l mp)) :
    Calls Tryz.prog 165 #[bx Bo, bx Ba, bx Bh] w (OutPost Bo (m.blk a t l) 0 w) := by
  have hO := hM.1
  have hl := Lib.hid (blank_any m a t l mp P Q c d w hM.2 ha hmp hh hi)
  have R0 := (hM.1).cell
  have R1 := (hA).cell
  have R2 := (hH).cell
  generalize m.blk a t l = K at hl ⊢
  go_enter Tryz.func165, Tryz.ntmps165
  go_wp2_with (fail)
  refine hl.out.mono ?_
  rintro e w1 ⟨P', Q', c', d', rfl, s1, h1⟩
  have W1 := hO.up h1
  have K1 := Kp.of_up (S := [Bo]) h1
  have W1c := W1.cell
  have W1f := W1.frozen
  have W1l := W1.lt
  clear h1 hO
  go_wp2
  go_ret
  exact ⟨rfl, K1.set3 (by simp) _ _ _, P', Q', c', d', W1.set3 _ _ _, s1.far3 W1 _ _ _⟩

theorem inn_n {m m' : Me} (h : m'.n = m.n) (a k : Int) : m'.inn a k ↔ m.inn a k := by unfold Me.inn; rw [h]
/-- What the row of Put comes to. -/
def PutPhi (m : Me) (a t l mp : Int) (Bo : Nat) (x : Int) (w' : World) : Prop := x = m.pute a t l mp ∧ (x = 0 → ∃ P Q c d, Box w' Bo (m.putm a t l mp) P Q c d)
theorem put_run (m : Me) (a t l mp : Int) (P Q : Addr) (c d Bm Ba Bh Bw Bo : Nat) (w : World) (ha : U64 a) (hmp : 0 ≤ mp) (h1 : Bm < Ba) (h2 : Ba < Bh) (h3 : Bh < Bw) (h4 : Bw < Bo)
    (hM : Box w Bm m P Q c d) (hA : Blk w Ba 54 #[.int .u64 a]) (hH : Blk w Bh 60 (hcs t l mp)) (hW : Blk w Bw 54 #[.int .u64 0]) (hO : Box w Bo m P Q c d) :
    Run [Bw, Bo] (PutPhi m a t l mp Bo) [(161, #[bx Bh, bx Bw]), (163, #[bx Bm, bx Ba, bx Bh]), (164, #[bx Bm, bx Ba, bx Bw, bx Bo]), (165, #[bx Bo, bx Ba, bx Bh])] w := by
  refine ⟨Tryz.call161, fun w0 u0 => ?_⟩
  refine (put_c1 t l mp 0 Bh Bw w0 hmp (hH.up u0) (hW.up u0)).mono ?_
  rintro e w1 ⟨rfl, k1, W1⟩
  have T1 := Tiny.one (hW.up u0)
  have M1 := (hM.up u0).kp k1 (by simp; omega) T1
  have A1 := (hA.up u0).kp k1 (by simp; omega)
  have H1 := (hH.up u0).kp k1 (by simp; omega)
  have O1 := (hO.up u0).kp k1 (by simp; omega) T1
  refine ⟨_, rfl, k1.mono (by simp), fun hx w2 u2 => ⟨(if_neg hx).symm, fun q => absurd q hx⟩, fun hx => ?_⟩
  rw [show wov t l mp = _ from if_pos hx] at W1
  refine ⟨Tryz.call163, fun w2 u2 => ?_⟩
  refine (put_c2 m a t l mp P Q c d Bm Ba Bh w2 ha hmp hx (M1.up u2) (A1.up u2) (H1.up u2)).mono ?_
  rintro e w3 ⟨rfl, u3⟩
  refine ⟨_, rfl, .of_up u3, fun hy w4 u4 => ⟨(if_pos hx).symm, fun q => absurd q hy⟩, fun hy => ?_⟩
  have hi : m.inn a (wdn t l) := by
    by_cases hi : m.inn a (wdn t l)
    · exact hi
    · rw [decide_eq_false hi] at hy; cases hy
  have hok : m.pok a t l mp := ⟨hx, hi⟩
  have ht := pok_there hmp hok
  refine ⟨Tryz.call164, fun w4 u4 => ?_⟩
  refine (put_c3 m a (wrd t l mp) _ _ _ P Q c d Bm Ba Bw Bo w4 ha (((M1.up u2).up u3).up u4) (((A1.up u2).up u3).up u4) (((W1.up u2).up u3).up u4) (((O1.1.up u2).up u3).up u4)).mono ?_
  rintro e w5 ⟨rfl, k5, P5, Q5, c5, d5, O5⟩
  have A5 := (((A1.up u2).up u3).up u4).kp k5 (by simp; omega)
  have H5 := (((H1.up u2).up u3).up u4).kp k5 (by simp; omega)
  have hz : m.lde a = 0 := if_pos ht
  refine ⟨_, rfl, k5.mono (by simp), fun hq => absurd hz hq, fun _ => ?_⟩
  refine ⟨Tryz.call165, fun w6 u6 => ?_⟩
  refine (put_c4 (m.st a (wrd t l mp)) a t l mp P5 Q5 c5 d5 Bo Ba Bh w6 ha hmp hx ((inn_n (Me.st_n _ _ _) a _).2 hi) (O5.up u6) (A5.up u6) (H5.up u6)).mono ?_
  rintro e w7 ⟨rfl, k7, P7, Q7, c7, d7, O7⟩
  refine ⟨_, rfl, k7.mono (by simp), fun hq => absurd rfl hq, fun _ w8 u8 => ⟨(pute_0.2 hok).symm, fun _ => ⟨P7, Q7, c7, d7, ?_⟩⟩⟩
  rw [show m.putm a t l mp = _ from if_pos hok]
  exact O7.up u8

set_option maxHeartbeats 2000000 in
theorem put_any (m : Me) (a t l mp : Int) (P Q : Addr) (c d : Nat) (w : World) (hm : Sits w m P Q c d) (ha : U64 a) (hmp : 0 ≤ mp) :
    Calls Tryz.prog 151 #[.agg #[.int .i64 m.n, .slice (some P) m.n c, .slice (some Q) m.n d], .int .u64 a, hdv t l mp] w (Gives1 w (m.putm a t l mp) (.int .i64 (m.pute a t l mp))) := by
  have HR := Lib.hid (put_run m a t l mp P Q c d)
  have HM := Lib.hid hm
  have HP := Lib.hid hmp
  have HA := Lib.hid ha
  generalize hK : m.putm a t l mp = K
  have HK := Lib.hid hK
  clear hm hmp ha hK
  go_enter Tryz.func151, Tryz.ntmps151
  go_wp2_with (fail)
  refine calls_at (fun Wz0 hWz0 => ?_)
  have M0 : Blk Wz0 (w.heap.size) 25 #[.int .i64 m.n, .slice (some P) m.n c, .slice (some Q) m.n d] := by rw [hWz0]; exact (((((((Blk.new' _ (by simp) _ _).alloc _).alloc _).alloc _).alloc _).alloc _).alloc _)
  have A0 : Blk Wz0 (w.heap.size + 1) 54 #[.int .u64 a] := by rw [hWz0]; exact ((((((Blk.new' _ (by simp) _ _).alloc _).alloc _).alloc _).alloc _).alloc _)
  have H0 : Blk Wz0 (w.heap.size + 1 + 1) 60 #[.int .i64 t, .int .i64 l, .int .u64 mp] := by rw [hWz0]; exact (((((Blk.new' _ (by simp) _ _).alloc _).alloc _).alloc _).alloc _)
  have R0 : Blk Wz0 (w.heap.size + 1 + 1 + 1) 25 #[.int .i64 0, .slice none 0 0, .slice none 0 0] := by rw [hWz0]; exact ((((Blk.new' _ (by simp) _ _).alloc _).alloc _).alloc _)
  have W0 : Blk Wz0 (w.heap.size + 1 + 1 + 1 + 1) 54 #[.int .u64 0] := by rw [hWz0]; exact (((Blk.new' _ (by simp) _ _).alloc _).alloc _)
  have O0 : Blk Wz0 (w.heap.size + 1 + 1 + 1 + 1 + 1) 25 #[.int .i64 m.n, .slice (some P) m.n c, .slice (some Q) m.n d] := by rw [hWz0]; exact ((Blk.new' _ (by simp) _ _).alloc _)
  have G0 : Blk Wz0 (w.heap.size + 1 + 1 + 1 + 1 + 1 + 1) 114 (List.map fnv [(161, #[bx (w.heap.size + 1 + 1), bx (w.heap.size + 1 + 1 + 1 + 1)]), (163, #[bx (w.heap.size), bx (w.heap.size + 1), bx (w.heap.size + 1 + 1)]), (164, #[bx (w.heap.size), bx (w.heap.size + 1), bx (w.heap.size + 1 + 1 + 1 + 1), bx (w.heap.size + 1 + 1 + 1 + 1 + 1)]), (165, #[bx (w.heap.size + 1 + 1 + 1 + 1 + 1), bx (w.heap.size + 1), bx (w.heap.size + 1 + 1)])]).toArray := by rw [hWz0]; exact Blk.new' _ (by simp) _ _
  have U0 : Up w Wz0 := by rw [hWz0]; exact ((((((((Up.refl w).alloc _).alloc _).alloc _).alloc _).alloc _).alloc _).alloc _)
  clear hWz0
  refine (do_any [(w.heap.size + 1 + 1 + 1 + 1), (w.heap.size + 1 + 1 + 1 + 1 + 1)] (PutPhi m a t l mp (w.heap.size + 1 + 1 + 1 + 1 + 1)) _ (w.heap.size + 1 + 1 + 1 + 1 + 1 + 1) Wz0 (by simp) (by simp <;> omega) G0 (HR.out _ _ _ _ _ _ HA.out HP.out (by omega) (by omega) (by omega) (by omega) ⟨M0, HM.out.up U0⟩ A0 H0 W0 ⟨O0, HM.out.up U0⟩)).mono ?_
  clear G0 A0 H0 W0 O0
  rintro e w1 ⟨x, rfl, k1, hx, hO⟩
  have HX := Lib.hid hx
  have R1 := R0.kp k1 (by simp <;> omega)
  have M1 := M0.kp k1 (by simp <;> omega)
  have U1 := U0.kp k1 (by simp; omega)
  clear R0 M0 U0 hx
  have R1c := R1.cell
  have R1f := R1.frozen
  have R1l := R1.lt
  by_cases h : x = 0
  · subst h
    obtain ⟨P', Q', c', d', hO⟩ := hO rfl
    rw [HK.out] at hO
    obtain ⟨O1, S1⟩ := hO
    have O1c := O1.cell
    go_wp2
    refine bodyPost_ret (v := .tuple #[.agg #[.int .i64 K.n, .slice (some P') K.n c', .slice (some Q') K.n d'], .int .i64 0]) (by simp [results, Tryz.results151, go_sem, R1c, R1l]) rfl ⟨P', Q', c', d', by rw [← HX.out], ?_, ?_⟩
    · exact S1.far3 R1 _ _ _
    · exact U1.set3 (by omega) _ _ _
  · have HN := Lib.hid (show K = m from HK.out.symm.trans (if_neg (fun q => h (HX.out.trans (pute_0.2 q)))))
    have hb : (x != 0) = true := bne_iff_ne.mpr h
    have M1c := M1.cell
    clear hO h
    go_wp2
    refine bodyPost_ret (v := .tuple #[.agg #[.int .i64 m.n, .slice (some P) m.n c, .slice (some Q) m.n d], .int .i64 x]) (by simp [results, Tryz.results151, go_sem, R1c, R1l]) rfl ⟨P, Q, c, d, by rw [← HX.out, HN.out], ?_, ?_⟩
    · rw [HN.out]
      exact (HM.out.up U1).far3 R1 _ _ _
    · exact U1.set3 (by omega) _ _ _

/-- So many words may be filled. -/
def flb (n : Int) : Bool := decide (1 ≤ n ∧ n ≤ 65536)
set_option maxHeartbeats 1000000 in
theorem fill_c1 (n : Int) (Bn : Nat) (w : World) (hN : Blk w Bn 3 #[.int .i64 n]) :
    Calls Tryz.prog 167 #[bx Bn] w (fun e w' => e = .returned (.int .i64 (unl (flb n) 1)) ∧ w = w') := by
  have R0 := hN.cell
  by_cases h0 : 1 ≤ n
  · by_cases h1 : n ≤ 65536
    · rw [show flb n = true from decide_eq_true ⟨h0, h1⟩]
      have hl := Lib.hid (unless_any true 1 w)
      go_enter Tryz.func167, Tryz.ntmps167
      go_wp2_with (fail)
      refine hl.out.mono ?_
      rintro e w1 ⟨rfl, h1⟩
      go_wp2
      go_ret
      exact ⟨rfl, h1⟩
    · rw [show flb n = false from decide_eq_false (fun q => h1 q.2)]
      have hl := Lib.hid (unless_any false 1 w)
      have hd : decide (n ≤ 65536) = false := decide_eq_false h1
      clear h1
      go_enter Tryz.func167, Tryz.ntmps167
      go_wp2_with (fail)
      refine hl.out.mono ?_
      rintro e w1 ⟨rfl, h1⟩
      go_wp2
      go_ret
      exact ⟨rfl, h1⟩
  · rw [show flb n = false from decide_eq_false (fun q => h0 q.1)]
    have hl := Lib.hid (unless_any false 1 w)
    have hd : decide (1 ≤ n) = false := decide_eq_false h0
    clear h0
    go_enter Tryz.func167, Tryz.ntmps167
    go_wp2_with (fail)
    refine hl.out.mono ?_
    rintro e w1 ⟨rfl, h1⟩
    go_wp2
    go_ret
    exact ⟨rfl, h1⟩

set_option maxHeartbeats 1000000 in
theorem fill_c2 (m : Me) (a n : Int) (x0 x1 x2 : Value) (P Q : Addr) (c d Bm Ba Bn Bo : Nat) (w : World) (ha : U64 a) (h0 : 1 ≤ n) (h1 : n ≤ 65536) (hM : Box w Bm m P Q c d) (hA : Blk w Ba 54 #[.int .u64 a]) (hN : Blk w Bn 3 #[.int .i64 n]) (hO : Blk w Bo 25 #[x0, x1, x2]) :
    Calls Tryz.prog 168 #[bx Bm, bx Ba, bx Bn, bx Bo] w (OutPost Bo (m.putm a 255 (n - 1) 0) (m.pute a 255 (n - 1) 0) w) := by
  have hl := Lib.hid (put_any m a 255 (n - 1) 0 P Q c d w hM.2 ha (by decide))
  have R0 := (hM.1).cell
  have R1 := (hA).cell
  have R2 := (hN).cell
  generalize m.putm a 255 (n - 1) 0 = K at hl ⊢
  generalize m.pute a 255 (n - 1) 0 = z at hl ⊢
  go_enter Tryz.func168, Tryz.ntmps168
  go_wp2_with (fail)
  refine hl.out.mono ?_
  rintro e w1 ⟨P', Q', c', d', rfl, s1, h1⟩
  have W1 := hO.up h1
  have K1 := Kp.of_up (S := [Bo]) h1
  have W1c := W1.cell
  have W1f := W1.frozen
  have W1l := W1.lt
  clear h1 hO
  go_wp2
  go_ret
  exact ⟨rfl, K1.set3 (by simp) _ _ _, P', Q', c', d', W1.set3 _ _ _, s1.far3 W1 _ _ _⟩

def Me.fille (m : Me) (a n : Int) : Int := if flb n = true then m.pute a 255 (n - 1) 0 else 1
def Me.fillm (m : Me) (a n : Int) : Me := if flb n = true then m.putm a 255 (n - 1) 0 else m
/-- What the row of Fill comes to. -/
def FlPhi (m : Me) (a n : Int) (Bo : Nat) (x : Int) (w' : World) : Prop := x = m.fille a n ∧ ∃ P Q c d, Box w' Bo (m.fillm a n) P Q c d
theorem fill_run (m : Me) (a n : Int) (P Q : Addr) (c d Bm Ba Bn Bo : Nat) (w : World) (ha : U64 a) (h1 : Bm < Ba) (h2 : Ba < Bn) (h3 : Bn < Bo)
    (hM : Box w Bm m P Q c d) (hA : Blk w Ba 54 #[.int .u64 a]) (hN : Blk w Bn 3 #[.int .i64 n]) (hO : Box w Bo m P Q c d) :
    Run [Bo] (FlPhi m a n Bo) [(167, #[bx Bn]), (168, #[bx Bm, bx Ba, bx Bn, bx Bo])] w := by
  refine ⟨Tryz.call167, fun w0 u0 => ?_⟩
  refine (fill_c1 n Bn w0 (hN.up u0)).mono ?_
  rintro e w1 ⟨rfl, rfl⟩
  refine ⟨_, rfl, Kp.refl _ _, fun hx w2 u2 => ?_, fun hx => ?_⟩
  · have hb : flb n = false := by
      cases h : flb n
      · rfl
      · rw [h] at hx; exact absurd rfl hx
    refine ⟨?_, P, Q, c, d, ?_⟩
    · rw [hb, show m.fille a n = 1 from if_neg (by rw [hb]; decide)]
      rfl
    · rw [show m.fillm a n = m from if_neg (by rw [hb]; decide)]
      exact (hO.up u0).up u2
  have hb : flb n = true := by
    cases h : flb n
    · rw [h] at hx; cases hx
    · rfl
  obtain ⟨n0, n1⟩ := of_decide_eq_true hb
  refine ⟨Tryz.call168, fun w2 u2 => ?_⟩
  refine (fill_c2 m a n _ _ _ P Q c d Bm Ba Bn Bo w2 ha n0 n1 ((hM.up u0).up u2) ((hA.up u0).up u2) ((hN.up u0).up u2) ((hO.1.up u0).up u2)).mono ?_
  rintro e w3 ⟨rfl, k3, P3, Q3, c3, d3, O3⟩
  have e1 : m.fille a n = _ := if_pos hb
  have e2 : m.fillm a n = _ := if_pos hb
  refine ⟨_, rfl, k3, fun _ w4 u4 => ⟨e1.symm, P3, Q3, c3, d3, ?_⟩, fun hq w4 u4 => ⟨hq.symm.trans e1.symm, P3, Q3, c3, d3, ?_⟩⟩
  all_goals
    rw [e2]
    exact O3.up u4

set_option maxHeartbeats 2000000 in
theorem fill_any (m : Me) (a n : Int) (P Q : Addr) (c d : Nat) (w : World) (hm : Sits w m P Q c d) (ha : U64 a) :
    Calls Tryz.prog 152 #[.agg #[.int .i64 m.n, .slice (some P) m.n c, .slice (some Q) m.n d], .int .u64 a, .int .i64 n] w (Gives1 w (m.fillm a n) (.int .i64 (m.fille a n))) := by
  have HR := Lib.hid (fill_run m a n P Q c d)
  have HM := Lib.hid hm
  have HA := Lib.hid ha
  generalize hK : m.fillm a n = K
  have HK := Lib.hid hK
  clear hm ha hK
  go_enter Tryz.func152, Tryz.ntmps152
  go_wp2_with (fail)
  refine calls_at (fun Wz0 hWz0 => ?_)
  have M0 : Blk Wz0 (w.heap.size) 25 #[.int .i64 m.n, .slice (some P) m.n c, .slice (some Q) m.n d] := by rw [hWz0]; exact ((((((Blk.new' _ (by simp) _ _).alloc _).alloc _).alloc _).alloc _).alloc _)
  have A0 : Blk Wz0 (w.heap.size + 1) 54 #[.int .u64 a] := by rw [hWz0]; exact (((((Blk.new' _ (by simp) _ _).alloc _).alloc _).alloc _).alloc _)
  have N0 : Blk Wz0 (w.heap.size + 1 + 1) 3 #[.int .i64 n] := by rw [hWz0]; exact ((((Blk.new' _ (by simp) _ _).alloc _).alloc _).alloc _)
  have R0 : Blk Wz0 (w.heap.size + 1 + 1 + 1) 25 #[.int .i64 0, .slice none 0 0, .slice none 0 0] := by rw [hWz0]; exact (((Blk.new' _ (by simp) _ _).alloc _).alloc _)
  have O0 : Blk Wz0 (w.heap.size + 1 + 1 + 1 + 1) 25 #[.int .i64 m.n, .slice (some P) m.n c, .slice (some Q) m.n d] := by rw [hWz0]; exact ((Blk.new' _ (by simp) _ _).alloc _)
  have G0 : Blk Wz0 (w.heap.size + 1 + 1 + 1 + 1 + 1) 114 (List.map fnv [(167, #[bx (w.heap.size + 1 + 1)]), (168, #[bx (w.heap.size), bx (w.heap.size + 1), bx (w.heap.size + 1 + 1), bx (w.heap.size + 1 + 1 + 1 + 1)])]).toArray := by rw [hWz0]; exact Blk.new' _ (by simp) _ _
  have U0 : Up w Wz0 := by rw [hWz0]; exact (((((((Up.refl w).alloc _).alloc _).alloc _).alloc _).alloc _).alloc _)
  clear hWz0
  refine (do_any [(w.heap.size + 1 + 1 + 1 + 1)] (FlPhi m a n (w.heap.size + 1 + 1 + 1 + 1)) _ (w.heap.size + 1 + 1 + 1 + 1 + 1) Wz0 (by simp) (by simp <;> omega) G0 (HR.out _ _ _ _ _ HA.out (by omega) (by omega) (by omega) ⟨M0, HM.out.up U0⟩ A0 N0 ⟨O0, HM.out.up U0⟩)).mono ?_
  clear G0 M0 A0 N0 O0
  rintro e w1 ⟨x, rfl, k1, hx, P', Q', c', d', hO⟩
  rw [HK.out] at hO
  obtain ⟨O1, S1⟩ := hO
  have HX := Lib.hid hx
  have R1 := R0.kp k1 (by simp <;> omega)
  have U1 := U0.kp k1 (by simp; omega)
  clear R0 U0 hx
  have R1c := R1.cell
  have R1f := R1.frozen
  have R1l := R1.lt
  have O1c := O1.cell
  go_wp2
  refine bodyPost_ret (v := .tuple #[.agg #[.int .i64 K.n, .slice (some P') K.n c', .slice (some Q') K.n d'], .int .i64 x]) (by simp [results, Tryz.results152, go_sem, R1c, R1l]) rfl ⟨P', Q', c', d', by rw [← HX.out], ?_, ?_⟩
  · exact S1.far3 R1 _ _ _
  · exact U1.set3 (by omega) _ _ _


end Go.Proofs.YtddoljfkbkbfjaaGreat
