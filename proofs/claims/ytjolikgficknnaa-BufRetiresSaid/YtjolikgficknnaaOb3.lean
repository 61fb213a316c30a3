/- The head of an object that is no filler, and its fields (object.known, Get, Set): contracts of the closures and of the calls. -/
import Derived.Test.YtjolikgficknnaaOb2
namespace Go.Proofs.Ytjolikgficknnaa
open Go.ChangeShapes Go.WideShapes Go.ChangeAt Go.RowKit
set_option linter.unusedVariables false
set_option linter.unusedSimpArgs false

/-- The error of an object that must not be a filler. -/
def Me.kne (m : Me) (a : Int) : Int := if m.atok a then unl (m.att a != 255) 8 else m.ate a
theorem kne_0 {m : Me} {a : Int} : m.kne a = 0 ↔ m.atok a ∧ m.att a ≠ 255 := by
  unfold Me.kne
  by_cases h : m.atok a
  · rw [if_pos h]
    by_cases k : m.att a = 255
    · simp [k, unl]
    · simp [k, unl, h]
  · rw [if_neg h]
    exact ⟨fun q => absurd (ate_0.1 q) h, fun q => absurd q.1 h⟩
/-- A field is there. -/
def Me.fok (m : Me) (a i : Int) : Prop := m.kne a = 0 ∧ hasb (m.atl a) i = true
instance decFok (m : Me) (a i : Int) : Decidable (m.fok a i) := by unfold Me.fok; infer_instance
def Me.gete (m : Me) (a i : Int) : Int := if m.kne a = 0 then unl (hasb (m.atl a) i) 7 else m.kne a
theorem gete_0 {m : Me} {a i : Int} : m.gete a i = 0 ↔ m.fok a i := by
  unfold Me.gete Me.fok
  by_cases h : m.kne a = 0
  · rw [if_pos h]
    cases hasb (m.atl a) i <;> simp [unl, h]
  · rw [if_neg h]
    exact ⟨fun q => absurd q h, fun q => absurd q.1 h⟩
def Me.getv (m : Me) (a i : Int) : Int := if m.fok a i then m.ld (a + 2 + i) else 0
def Me.getb (m : Me) (a i : Int) : Bool := if m.fok a i then ptb (m.atl a) (m.atm a) i else false
def Me.setm (m : Me) (a i v : Int) : Me := if m.fok a i then m.st (a + 2 + i) v else m

/-- An object's words lie side by side. -/
theorem inn_off {m : Me} {a k j : Int} (hn : m.n ≤ 4096) (h : m.inn a k) (h0 : 0 ≤ j) (h1 : j < k) : whs (a + j) = whs a ∧ whp (a + j) = whp a + j ∧ m.there (a + j) ∧ 0 ≤ a + j ∧ a + j ≤ 18446744073709551615 := by
  obtain ⟨hb, hk⟩ := h
  have e := adr_of hb
  have hp := whp_nn a
  have hs := whs_01 a
  have hl : Leads (a + j) (whs a) (whp a + j) := ⟨hs, by omega, by omega, by omega⟩
  obtain ⟨e1, e2, e3⟩ := hl.is
  exact ⟨e1, e2, ⟨e3, by omega⟩, by omega, by omega⟩
theorem kne_inn {m : Me} {a : Int} (h : m.kne a = 0) : m.inn a (m.atl a + 2) ∧ 0 ≤ m.atl a := by
  obtain ⟨h1, h2⟩ := kne_0.1 h
  obtain ⟨e1, e2, e3⟩ := at_of h1
  have h3 := h1.2.2
  have h4 := rte_small (mpw_nn _) (atok_rte h1)
  rw [e1] at h2
  rw [e2]
  rw [show wdn (tgw (m.ld a)) (lnw (m.ld a)) = lnw (m.ld a) + 2 from if_neg h2] at h3
  exact ⟨h3, h4.2.2.1⟩
theorem fok_off {m : Me} {a i : Int} (hn : m.n ≤ 4096) (h : m.fok a i) : m.there (a + 2 + i) ∧ 0 ≤ i ∧ i < m.atl a ∧ 0 ≤ a + 2 + i ∧ a + 2 + i ≤ 18446744073709551615 := by
  obtain ⟨h1, h2⟩ := h
  obtain ⟨i0, i1⟩ := of_decide_eq_true h2
  obtain ⟨h3, h4⟩ := kne_inn h1
  obtain ⟨_, _, q, r, s⟩ := inn_off (j := 2 + i) hn h3 (by omega) (by omega)
  rw [show a + 2 + i = a + (2 + i) from by omega]
  exact ⟨q, i0, i1, r, s⟩
theorem atm_nn (m : Me) (a : Int) : 0 ≤ m.atm a := by
  unfold Me.atm
  split
  · exact mpw_nn _
  · exact Int.le_refl 0
theorem atm_hi (m : Me) (a : Int) : m.atm a ≤ 4294967295 := by
  unfold Me.atm mpw
  split <;> omega
theorem atl_16 {m : Me} {a : Int} (h : m.kne a = 0) : m.atl a ≤ 16 := by
  obtain ⟨h1, h2⟩ := kne_0.1 h
  obtain ⟨e1, e2, e3⟩ := at_of h1
  have h4 := (rte_small (mpw_nn _) (atok_rte h1)).2.2.2.2.2
  rw [e1] at h2
  rw [e2]
  omega

/-- What the row of known comes to. -/
def KnPhi (m : Me) (a : Int) (Bh : Nat) (x : Int) (w' : World) : Prop := x = m.kne a ∧ Blk w' Bh 39 (hcs (m.att a) (m.atl a) (m.atm a))
end Go.Proofs.Ytjolikgficknnaa
