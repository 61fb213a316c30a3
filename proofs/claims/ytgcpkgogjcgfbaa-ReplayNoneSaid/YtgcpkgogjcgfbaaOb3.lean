/- The head of an object that is no filler, and its fields (object.known, Get, Set): contracts of the closures and of the calls. -/
import Derived.Test.YtgcpkgogjcgfbaaOb2
namespace Go.Proofs.Ytgcpkgogjcgfbaa
open Go.ChangeShapes Go.WideShapes Go.ChangeAt Go.RowKit
set_option linter.unusedVariables false
set_option linter.unusedSimpArgs false

/-- The error of an object that must not be a filler. -/
def Me.kne (m : Me) (a : Int) : Int := if m.atok a then unl (m.att a != 255) 8 else m.ate a
theorem kne_0 {m : Me} {a : Int} : m.kne a = 0 ↔ m.atok a ∧ m.att a ≠ 255 := by
  unfold Me.kne
  by_cases h : m.atok a
  · rw [if_pos h]
    by_cases k : m.att a = 255
    · simp [k, unl]
    · simp [k, unl, h]
  · rw [if_neg h]
    exact ⟨fun q => absurd (ate_0.1 q) h, fun q => absurd q.1 h⟩
/-- A field is there. -/
def Me.fok (m : Me) (a i : Int) : Prop := m.kne a = 0 ∧ hasb (m.atl a) i = true
instance decFok (m : Me) (a i : Int) : Decidable (m.fok a i) := by unfold Me.fok; infer_instance
def Me.gete (m : Me) (a i : Int) : Int := if m.kne a = 0 then unl (hasb (m.atl a) i) 7 else m.kne a
theorem gete_0 {m : Me} {a i : Int} : m.gete a i = 0 ↔ m.fok a i := by
  unfold Me.gete Me.fok
  by_cases h : m.kne a = 0
  · rw [if_pos h]
    cases hasb (m.atl a) i <;> simp [unl, h]
  · rw [if_neg h]
    exact ⟨fun q => absurd q h, fun q => absurd q.1 h⟩
def Me.getv (m : Me) (a i : Int) : Int := if m.fok a i then m.ld (a + 2 + i) else 0
def Me.getb (m : Me) (a i : Int) : Bool := if m.fok a i then ptb (m.atl a) (m.atm a) i else false
def Me.setm (m : Me) (a i v : Int) : Me := if m.fok a i then m.st (a + 2 + i) v else m

/-- An object's words lie side by side. -/
theorem inn_off {m : Me} {a k j : Int} (hn : m.n ≤ 4096) (h : m.inn a k) (h0 : 0 ≤ j) (h1 : j < k) : whs (a + j) = whs a ∧ whp (a + j) = whp a + j ∧ m.there (a + j) ∧ 0 ≤ a + j ∧ a + j ≤ 18446744073709551615 := by
  obtain ⟨hb, hk⟩ := h
  have e := adr_of hb
  have hp := whp_nn a
  have hs := whs_01 a
  have hl : Leads (a + j) (whs a) (whp a + j) := ⟨hs, by omega, by omega, by omega⟩
  obtain ⟨e1, e2, e3⟩ := hl.is
  exact ⟨e1, e2, ⟨e3, by omega⟩, by omega, by omega⟩
theorem kne_inn {m : Me} {a : Int} (h : m.kne a = 0) : m.inn a (m.atl a + 2) ∧ 0 ≤ m.atl a := by
  obtain ⟨h1, h2⟩ := kne_0.1 h
  obtain ⟨e1, e2, e3⟩ := at_of h1
  have h3 := h1.2.2
  have h4 := rte_small (mpw_nn _) (atok_rte h1)
  rw [e1] at h2
  rw [e2]
  rw [show wdn (tgw (m.ld a)) (lnw (m.ld a)) = lnw (m.ld a) + 2 from if_neg h2] at h3
  exact ⟨h3, h4.2.2.1⟩
theorem fok_off {m : Me} {a i : Int} (hn : m.n ≤ 4096) (h : m.fok a i) : m.there (a + 2 + i) ∧ 0 ≤ i ∧ i < m.atl a ∧ 0 ≤ a + 2 + i ∧ a + 2 + i ≤ 18446744073709551615 := by
  obtain ⟨h1, h2⟩ := h
  obtain ⟨i0, i1⟩ := of_decide_eq_true h2
  obtain ⟨h3, h4⟩ := kne_inn h1
  obtain ⟨_, _, q, r, s⟩ := inn_off (j := 2 + i) hn h3 (by omega) (by omega)
  rw [show a + 2 + i = a + (2 + i) from by omega]
  exact ⟨q, i0, i1, r, s⟩
theorem atm_nn (m : Me) (a : Int) : 0 ≤ m.atm a := by
  unfold Me.atm
  split
  · exact mpw_nn _
  · exact Int.le_refl 0
theorem atm_hi (m : Me) (a : Int) : m.atm a ≤ 4294967295 := by
  unfold Me.atm mpw
  split <;> omega
theorem atl_16 {m : Me} {a : Int} (h : m.kne a = 0) : m.atl a ≤ 16 := by
  obtain ⟨h1, h2⟩ := kne_0.1 h
  obtain ⟨e1, e2, e3⟩ := at_of h1
  have h4 := (rte_small (mpw_nn _) (atok_rte h1)).2.2.2.2.2
  rw [e1] at h2
  rw [e2]
  omega

set_option maxHeartbeats 1000000 in
theorem known_c1 (m : Me) (a x0 x1 x2 : Int) (P Q : Addr) (c d Bm Ba Bh : Nat) (w : World) (ha : U64 a) (hwf : m.wf) (hM : Box w Bm m P Q c d) (hA : Blk w Ba 44 #[.int .u64 a]) (hH : Blk w Bh 55 (hcs x0 x1 x2)) :
    Calls Try.prog 81 #[bx Bm, bx Ba, bx Bh] w (CellPost Bh 55 (hcs (m.att a) (m.atl a) (m.atm a)) (m.ate a) w) := by
  have hl := Lib.hid (at_any m a P Q c d w hM.2 ha hwf)
  have R0 := (hM.1).cell
  have R1 := (hA).cell
  go_enter Try.func81, Try.ntmps81
  go_wp2_with (fail)
  refine hl.out.mono ?_
  rintro e w1 ⟨rfl, h1⟩
  have W1 := hH.up h1
  have K1 := Kp.of_up (S := [Bh]) h1
  have W1c := W1.cell
  have W1f := W1.frozen
  have W1l := W1.lt
  clear h1 hH
  go_wp2
  go_ret
  exact ⟨rfl, K1.set3 (by simp) _ _ _, W1.set3 _ _ _⟩

set_option maxHeartbeats 1000000 in
theorem known_c2 (t l mp : Int) (Bh : Nat) (w : World) (hH : Blk w Bh 55 (hcs t l mp)) :
    Calls Try.prog 82 #[bx Bh] w (fun e w' => e = .returned (.int .i64 (unl (t != 255) 8)) ∧ w = w') := by
  have hl := Lib.hid (unless_any (t != 255) 8 w)
  have R0 := (hH).cell
  go_enter Try.func82, Try.ntmps82
  go_wp2_with (fail)
  refine hl.out.mono ?_
  rintro e w1 ⟨rfl, h1⟩
  go_wp2
  go_ret
  exact ⟨rfl, h1⟩

/-- What the row of known comes to. -/
def KnPhi (m : Me) (a : Int) (Bh : Nat) (x : Int) (w' : World) : Prop := x = m.kne a ∧ Blk w' Bh 55 (hcs (m.att a) (m.atl a) (m.atm a))
theorem known_run (m : Me) (a : Int) (P Q : Addr) (c d Bm Ba Bh : Nat) (w : World) (ha : U64 a) (hwf : m.wf) (h1 : Bm < Ba) (h2 : Ba < Bh)
    (hM : Box w Bm m P Q c d) (hA : Blk w Ba 44 #[.int .u64 a]) (hH : Blk w Bh 55 (hcs 0 0 0)) :
    Run [Bh] (KnPhi m a Bh) [(81, #[bx Bm, bx Ba, bx Bh]), (82, #[bx Bh])] w := by
  refine ⟨Try.call81, fun w0 u0 => ?_⟩
  refine (known_c1 m a 0 0 0 P Q c d Bm Ba Bh w0 ha hwf (hM.up u0) (hA.up u0) (hH.up u0)).mono ?_
  rintro e w1 ⟨rfl, k1, H1⟩
  refine ⟨_, rfl, k1, fun hx w2 u2 => ⟨?_, H1.up u2⟩, fun hx => ?_⟩
  · exact (if_neg (fun q => hx (ate_0.2 q))).symm
  have hk := ate_0.1 hx
  refine ⟨Try.call82, fun w2 u2 => ?_⟩
  refine (known_c2 _ _ _ Bh w2 (H1.up u2)).mono ?_
  rintro e w3 ⟨rfl, rfl⟩
  exact ⟨_, rfl, Kp.refl _ _, fun hx w4 u4 => ⟨(if_pos hk).symm, (H1.up u2).up u4⟩, fun hx w4 u4 => ⟨hx.symm.trans (if_pos hk).symm, (H1.up u2).up u4⟩⟩

set_option maxHeartbeats 2000000 in
theorem known_any (m : Me) (a : Int) (P Q : Addr) (c d : Nat) (w : World) (hm : Sits w m P Q c d) (ha : U64 a) (hwf : m.wf) :
    Calls Try.prog 53 #[.agg #[.int .i64 m.n, .slice (some P) m.n c, .slice (some Q) m.n d], .int .u64 a] w fun e w' => e = .returned (.tuple #[hdv (m.att a) (m.atl a) (m.atm a), .int .i64 (m.kne a)]) ∧ Up w w' := by
  have HR := Lib.hid (known_run m a P Q c d)
  have HM := Lib.hid hm
  have HW := Lib.hid hwf
  have HA := Lib.hid ha
  clear hm hwf ha
  go_enter Try.func53, Try.ntmps53
  go_wp2_with (fail)
  refine calls_at (fun V0 hV0 => ?_)
  have M0 : Blk V0 (w.heap.size) 25 #[.int .i64 m.n, .slice (some P) m.n c, .slice (some Q) m.n d] := by rw [hV0]; exact (((((Blk.new' _ (by simp) _ _).alloc _).alloc _).alloc _).alloc _)
  have A0 : Blk V0 (w.heap.size + 1) 44 #[.int .u64 a] := by rw [hV0]; exact ((((Blk.new' _ (by simp) _ _).alloc _).alloc _).alloc _)
  have R0 : Blk V0 (w.heap.size + 1 + 1) 55 #[.int .i64 0, .int .i64 0, .int .u64 0] := by rw [hV0]; exact (((Blk.new' _ (by simp) _ _).alloc _).alloc _)
  have H0 : Blk V0 (w.heap.size + 1 + 1 + 1) 55 #[.int .i64 0, .int .i64 0, .int .u64 0] := by rw [hV0]; exact ((Blk.new' _ (by simp) _ _).alloc _)
  have G0 : Blk V0 (w.heap.size + 1 + 1 + 1 + 1) 100 (List.map fnv [(81, #[bx (w.heap.size), bx (w.heap.size + 1), bx (w.heap.size + 1 + 1 + 1)]), (82, #[bx (w.heap.size + 1 + 1 + 1)])]).toArray := by rw [hV0]; exact Blk.new' _ (by simp) _ _
  have U0 : Up w V0 := by rw [hV0]; exact ((((((Up.refl w).alloc _).alloc _).alloc _).alloc _).alloc _)
  clear hV0
  refine (do_any [(w.heap.size + 1 + 1 + 1)] (KnPhi m a (w.heap.size + 1 + 1 + 1)) _ (w.heap.size + 1 + 1 + 1 + 1) V0 (by simp) (by simp <;> omega) G0 (HR.out _ _ _ _ HA.out HW.out (by omega) (by omega) ⟨M0, HM.out.up U0⟩ A0 H0)).mono ?_
  clear G0 M0 A0 H0
  rintro e w1 ⟨x, rfl, k1, hx, H1⟩
  have HX := Lib.hid hx
  have R1 := R0.kp k1 (by simp <;> omega)
  have U1 := U0.kp k1 (by simp; omega)
  clear R0 U0 hx
  have R1c := R1.cell
  have R1f := R1.frozen
  have R1l := R1.lt
  have H1c := H1.cell
  go_wp2
  refine bodyPost_ret (v := .tuple #[hdv (m.att a) (m.atl a) (m.atm a), .int .i64 x]) (by simp [results, Try.results53, go_sem, R1c, R1l]) rfl ⟨by rw [← HX.out], ?_⟩
  exact U1.set3 (by omega) _ _ _

set_option maxHeartbeats 1000000 in
theorem get_c1 (m : Me) (a x0 x1 x2 : Int) (P Q : Addr) (c d Bm Ba Bh : Nat) (w : World) (ha : U64 a) (hwf : m.wf) (hM : Box w Bm m P Q c d) (hA : Blk w Ba 44 #[.int .u64 a]) (hH : Blk w Bh 55 (hcs x0 x1 x2)) :
    Calls Try.prog 52 #[bx Bm, bx Ba, bx Bh] w (CellPost Bh 55 (hcs (m.att a) (m.atl a) (m.atm a)) (m.kne a) w) := by
  have hl := Lib.hid (known_any m a P Q c d w hM.2 ha hwf)
  have R0 := (hM.1).cell
  have R1 := (hA).cell
  go_enter Try.func52, Try.ntmps52
  go_wp2_with (fail)
  refine hl.out.mono ?_
  rintro e w1 ⟨rfl, h1⟩
  have W1 := hH.up h1
  have K1 := Kp.of_up (S := [Bh]) h1
  have W1c := W1.cell
  have W1f := W1.frozen
  have W1l := W1.lt
  clear h1 hH
  go_wp2
  go_ret
  exact ⟨rfl, K1.set3 (by simp) _ _ _, W1.set3 _ _ _⟩

set_option maxHeartbeats 1000000 in
theorem set_c1 (m : Me) (a x0 x1 x2 : Int) (P Q : Addr) (c d Bm Ba Bh : Nat) (w : World) (ha : U64 a) (hwf : m.wf) (hM : Box w Bm m P Q c d) (hA : Blk w Ba 44 #[.int .u64 a]) (hH : Blk w Bh 55 (hcs x0 x1 x2)) :
    Calls Try.prog 67 #[bx Bm, bx Ba, bx Bh] w (CellPost Bh 55 (hcs (m.att a) (m.atl a) (m.atm a)) (m.kne a) w) := by
  have hl := Lib.hid (known_any m a P Q c d w hM.2 ha hwf)
  have R0 := (hM.1).cell
  have R1 := (hA).cell
  go_enter Try.func67, Try.ntmps67
  go_wp2_with (fail)
  refine hl.out.mono ?_
  rintro e w1 ⟨rfl, h1⟩
  have W1 := hH.up h1
  have K1 := Kp.of_up (S := [Bh]) h1
  have W1c := W1.cell
  have W1f := W1.frozen
  have W1l := W1.lt
  clear h1 hH
  go_wp2
  go_ret
  exact ⟨rfl, K1.set3 (by simp) _ _ _, W1.set3 _ _ _⟩

set_option maxHeartbeats 1000000 in
theorem get_c2 (t l mp i : Int) (Bh Bi : Nat) (w : World) (hH : Blk w Bh 55 (hcs t l mp)) (hI : Blk w Bi 3 #[.int .i64 i]) :
    Calls Try.prog 54 #[bx Bh, bx Bi] w (fun e w' => e = .returned (.int .i64 (unl (hasb l i) 7)) ∧ Up w w') := by
  have hl := Lib.hid (has_any t l mp i w)
  have R0 := (hH).cell
  have R1 := (hI).cell
  go_enter Try.func54, Try.ntmps54
  go_wp2_with (fail)
  refine hl.out.mono ?_
  rintro e w1 ⟨rfl, h1⟩
  go_wp2
  go_ret
  exact ⟨rfl, h1⟩

set_option maxHeartbeats 1000000 in
theorem set_c2 (t l mp i : Int) (Bh Bi : Nat) (w : World) (hH : Blk w Bh 55 (hcs t l mp)) (hI : Blk w Bi 3 #[.int .i64 i]) :
    Calls Try.prog 68 #[bx Bh, bx Bi] w (fun e w' => e = .returned (.int .i64 (unl (hasb l i) 7)) ∧ Up w w') := by
  have hl := Lib.hid (has_any t l mp i w)
  have R0 := (hH).cell
  have R1 := (hI).cell
  go_enter Try.func68, Try.ntmps68
  go_wp2_with (fail)
  refine hl.out.mono ?_
  rintro e w1 ⟨rfl, h1⟩
  go_wp2
  go_ret
  exact ⟨rfl, h1⟩

set_option maxHeartbeats 1000000 in
theorem get_c3 (m : Me) (a i x : Int) (P Q : Addr) (c d Bm Ba Bi Bv : Nat) (w : World) (ha : U64 a) (h0 : 0 ≤ i) (h2 : a + 2 + i ≤ 18446744073709551615) (n1 : Bm ≠ Bv) (n2 : Ba ≠ Bv) (n3 : Bi ≠ Bv)
    (hM : Box w Bm m P Q c d) (hA : Blk w Ba 44 #[.int .u64 a]) (hI : Blk w Bi 3 #[.int .i64 i]) (hV : Blk w Bv 44 #[.int .u64 x]) :
    Calls Try.prog 56 #[bx Bm, bx Ba, bx Bi, bx Bv] w (CellPost Bv 44 #[.int .u64 (m.ld (a + 2 + i))] (m.lde (a + 2 + i)) w) := by
  have hf := Lib.hid (fun w => field_any a i w ha.1 h0 h2)
  have hl := Lib.hid (fun (W : World) (h : Up w.drew W) => load_any m (a + 2 + i) P Q c d W ((hM.2.up (Up.refl w).drew).up h) ⟨by have := ha.1; omega, h2⟩)
  have M0 := hM.1.drew
  have A0 := hA.drew
  have I0 := hI.drew
  have V0 := hV.drew
  have U0 := Up.refl w.drew
  have UW := (Up.refl w).drew
  generalize a + 2 + i = b at hf hl ⊢
  clear hM hA hI hV ha h0 h2
  go_enter Try.func56, Try.ntmps56
  go_wp2_with (fail)
  go_region_held3 (fun w' => (∀ i, w'.cell? ⟨Bm, i, none⟩ = (#[.int .i64 m.n, .slice (some P) m.n c, .slice (some Q) m.n d] : Array Value)[i]?) ∧ (∀ j, w'.cell? ⟨Ba, j, none⟩ = (#[.int .u64 a] : Array Value)[j]?) ∧ (∀ j, w'.cell? ⟨Bi, j, none⟩ = (#[.int .i64 i] : Array Value)[j]?))
    (first
      | exact ⟨fun i => (Blk.up M0 (by assumption)).cell i, fun i => (Blk.up A0 (by assumption)).cell i, fun i => (Blk.up I0 (by assumption)).cell i⟩
      | exact ⟨fun i => ((Blk.up M0 (by assumption)).far n1 _).cell i, fun i => ((Blk.up A0 (by assumption)).far n2 _).cell i, fun i => ((Blk.up I0 (by assumption)).far n3 _).cell i⟩)
    (first
      | (go_at_call 58; ((with_reducible refine (hf.out _).mono ?_); rintro e wz ⟨rfl, hz⟩; have UZ := Up.trans (a := w.drew) (by assumption) hz))
      | (go_at_call 57; ((with_reducible refine (hl.out _ (by assumption)).mono ?_); rintro e wz ⟨rfl, hz⟩; have UZ := Up.trans (a := w.drew) (by assumption) hz; have VZ := V0.up UZ; have VZc := VZ.cell; have VZf := VZ.frozen; have VZl := VZ.lt)))
  all_goals
    go_wp2
    go_ret
    exact ⟨rfl, (Kp.of_up (UW.trans UZ)).set_ (by simp) _, VZ.set_ 0 _⟩

set_option maxHeartbeats 1000000 in
theorem set_c3 (m : Me) (a i v : Int) (x0 x1 x2 : Value) (P Q : Addr) (c d Bm Ba Bi Bv Bo : Nat) (w : World) (ha : U64 a) (h0 : 0 ≤ i) (h2 : a + 2 + i ≤ 18446744073709551615) (n1 : Bm ≠ Bo) (n2 : Ba ≠ Bo) (n3 : Bi ≠ Bo) (n4 : Bv ≠ Bo)
    (hM : Box w Bm m P Q c d) (hA : Blk w Ba 44 #[.int .u64 a]) (hI : Blk w Bi 3 #[.int .i64 i]) (hV : Blk w Bv 44 #[.int .u64 v]) (hO : Blk w Bo 25 #[x0, x1, x2]) :
    Calls Try.prog 69 #[bx Bm, bx Ba, bx Bi, bx Bv, bx Bo] w (OutPost Bo (m.st (a + 2 + i) v) (m.lde (a + 2 + i)) w) := by
  have hf := Lib.hid (fun w => field_any a i w ha.1 h0 h2)
  have hl := Lib.hid (fun (W : World) (h : Up w.drew W) => store_any m (a + 2 + i) v P Q c d W ((hM.2.up (Up.refl w).drew).up h) ⟨by have := ha.1; omega, h2⟩)
  have M0 := hM.1.drew
  have A0 := hA.drew
  have I0 := hI.drew
  have V0 := hV.drew
  have O0 := hO.drew
  have U0 := Up.refl w.drew
  have UW := (Up.refl w).drew
  generalize m.st (a + 2 + i) v = K at hl ⊢
  generalize a + 2 + i = b at hf hl ⊢
  clear hM hA hI hV hO ha h0 h2
  go_enter Try.func69, Try.ntmps69
  go_wp2_with (fail)
  go_region_held3 (fun w' => (∀ i, w'.cell? ⟨Bm, i, none⟩ = (#[.int .i64 m.n, .slice (some P) m.n c, .slice (some Q) m.n d] : Array Value)[i]?) ∧ (∀ j, w'.cell? ⟨Ba, j, none⟩ = (#[.int .u64 a] : Array Value)[j]?) ∧ (∀ j, w'.cell? ⟨Bi, j, none⟩ = (#[.int .i64 i] : Array Value)[j]?) ∧ (∀ j, w'.cell? ⟨Bv, j, none⟩ = (#[.int .u64 v] : Array Value)[j]?))
    (first
      | exact ⟨fun i => (Blk.up M0 (by assumption)).cell i, fun i => (Blk.up A0 (by assumption)).cell i, fun i => (Blk.up I0 (by assumption)).cell i, fun i => (Blk.up V0 (by assumption)).cell i⟩
      | exact ⟨fun i => ((((Blk.up M0 (by assumption)).far n1 _).far n1 _).far n1 _).cell i, fun i => ((((Blk.up A0 (by assumption)).far n2 _).far n2 _).far n2 _).cell i, fun i => ((((Blk.up I0 (by assumption)).far n3 _).far n3 _).far n3 _).cell i, fun i => ((((Blk.up V0 (by assumption)).far n4 _).far n4 _).far n4 _).cell i⟩)
    (first
      | (go_at_call 58; ((with_reducible refine (hf.out _).mono ?_); rintro e wz ⟨rfl, hz⟩; have UZ := Up.trans (a := w.drew) (by assumption) hz))
      | (go_at_call 70; ((with_reducible refine (hl.out _ (by assumption)).mono ?_); rintro e wz ⟨P', Q', c', d', rfl, sz, hz⟩; have UZ := Up.trans (a := w.drew) (by assumption) hz; have OZ := O0.up UZ; have OZc := OZ.cell; have OZf := OZ.frozen; have OZl := OZ.lt)))
  all_goals
    go_wp2
    go_ret
    exact ⟨rfl, (Kp.of_up (UW.trans UZ)).set3 (by simp) _ _ _, P', Q', c', d', OZ.set3 _ _ _, sz.far3 OZ _ _ _⟩

end Go.Proofs.Ytgcpkgogjcgfbaa
