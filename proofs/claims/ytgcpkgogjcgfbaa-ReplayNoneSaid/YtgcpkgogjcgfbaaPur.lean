/- Memory as plain lists of words: what was stored is loaded, what was moved is there, nothing else changes. -/
import Derived.Test.YtgcpkgogjcgfbaaOpn
namespace Go.Proofs.Ytgcpkgogjcgfbaa
open Go.ChangeShapes Go.WideShapes Go.ChangeAt Go.RowKit
set_option linter.unusedVariables false
set_option linter.unusedSimpArgs false

theorem whs_01 (a : Int) : whs a = 0 ∨ whs a = 1 := by unfold whs; split <;> simp
theorem whp_nn (a : Int) : 0 ≤ whp a := by unfold whp; split <;> omega
/-- An address is that of its place. -/
theorem adr_of {a : Int} (h : whb a = true) : a = (whs a + 1) * 4294967296 + whp a := by
  have h := of_decide_eq_true h
  unfold whs whp
  rw [if_pos h]
  rcases h with h | h
  · rw [if_neg (by omega)]; omega
  · rw [if_pos h]; omega
theorem adr_same {a b : Int} (ha : whb a = true) (hb : whb b = true) (hs : whs a = whs b) (hp : whp a = whp b) : a = b := by
  rw [adr_of ha, adr_of hb, hs, hp]
theorem Me.sp_put_ne (m : Me) {s t : Int} (hs : s = 0 ∨ s = 1) (ht : t = 0 ∨ t = 1) (h : s ≠ t) (l : List Int) : (m.put s l).sp t = m.sp t := by
  rcases hs with rfl | rfl <;> rcases ht with rfl | rfl <;> first | rfl | exact absurd rfl h
theorem Me.put_comm (m : Me) {s t : Int} (hs : s = 0 ∨ s = 1) (ht : t = 0 ∨ t = 1) (h : s ≠ t) (l l' : List Int) : (m.put s l).put t l' = (m.put t l').put s l := by
  rcases hs with rfl | rfl <;> rcases ht with rfl | rfl <;> first | rfl | exact absurd rfl h
theorem there_n {m m' : Me} (h : m'.n = m.n) (a : Int) : m'.there a ↔ m.there a := by unfold Me.there; rw [h]
theorem lde_n {m m' : Me} (h : m'.n = m.n) (a : Int) : m'.lde a = m.lde a := by
  unfold Me.lde
  by_cases k : m.there a
  · rw [if_pos k, if_pos ((there_n h a).2 k)]
  · rw [if_neg k, if_neg (fun q => k ((there_n h a).1 q))]
theorem Me.st_n (m : Me) (a v : Int) : (m.st a v).n = m.n := by
  unfold Me.st
  split
  · exact Me.put_n _ _ _
  · rfl
theorem Me.sw_n (m : Me) (a o v : Int) : (m.sw a o v).n = m.n := by
  unfold Me.sw
  split
  · exact Me.st_n _ _ _
  · rfl

/-- What was stored is loaded. -/
theorem st_ld {m : Me} (hm : m.ok) {a v : Int} (h : m.there a) : (m.st a v).ld a = v := by
  rw [show (m.st a v).ld a = _ from if_pos ((there_n (Me.st_n m a v) a).2 h), show m.st a v = _ from if_pos h, Me.sp_put m (whs_01 a)]
  have hp := whp_nn a
  have hl : (whp a).toNat < (m.sp (whs a)).length := by rw [Me.len_sp hm]; have := h.2; omega
  simp [List.getD, hl]
/-- What is loaded elsewhere is as it was. -/
theorem st_other {m : Me} {a b v : Int} (hne : a ≠ b) : (m.st a v).ld b = m.ld b := by
  by_cases ha : m.there a
  · by_cases hb : m.there b
    · rw [show (m.st a v).ld b = _ from if_pos ((there_n (Me.st_n m a v) b).2 hb), show m.ld b = _ from if_pos hb, show m.st a v = _ from if_pos ha]
      by_cases hs : whs a = whs b
      · rw [← hs, Me.sp_put m (whs_01 a)]
        have hp : (whp a).toNat ≠ (whp b).toNat := fun e => hne (adr_same ha.1 hb.1 hs (by have := whp_nn a; have := whp_nn b; omega))
        simp [List.getD, List.getElem?_set, hp]
      · rw [Me.sp_put_ne m (whs_01 a) (whs_01 b) hs]
    · rw [show (m.st a v).ld b = 0 from if_neg (fun q => hb ((there_n (Me.st_n m a v) b).1 q)), show m.ld b = 0 from if_neg hb]
  · rw [show m.st a v = m from if_neg ha]
/-- Two words that are stored at two addresses hang on no order. -/
theorem st_comm {m : Me} {a b v x : Int} (hne : a ≠ b) : (m.st a v).st b x = (m.st b x).st a v := by
  by_cases ha : m.there a
  · by_cases hb : m.there b
    · rw [show (m.st a v).st b x = _ from if_pos ((there_n (Me.st_n m a v) b).2 hb), show (m.st b x).st a v = _ from if_pos ((there_n (Me.st_n m b x) a).2 ha), show m.st a v = _ from if_pos ha, show m.st b x = _ from if_pos hb]
      by_cases hs : whs a = whs b
      · rw [← hs, Me.sp_put m (whs_01 a), Me.sp_put m (whs_01 a), Me.put_put m (whs_01 a), Me.put_put m (whs_01 a)]
        have hp : (whp a).toNat ≠ (whp b).toNat := fun e => hne (adr_same ha.1 hb.1 hs (by have := whp_nn a; have := whp_nn b; omega))
        rw [List.set_comm _ _ hp]
      · rw [Me.sp_put_ne m (whs_01 a) (whs_01 b) hs, Me.sp_put_ne m (whs_01 b) (whs_01 a) (Ne.symm hs), Me.put_comm m (whs_01 a) (whs_01 b) hs]
    · rw [show m.st b x = m from if_neg hb, show (m.st a v).st b x = m.st a v from if_neg (fun q => hb ((there_n (Me.st_n m a v) b).1 q))]
  · rw [show m.st a v = m from if_neg ha, show (m.st b x).st a v = m.st b x from if_neg (fun q => ha ((there_n (Me.st_n m b x) a).1 q))]

/-- Two that are the same memory are the same. -/
theorem rsame_self (m : Me) (P Q P' Q' : Addr) (c d c' d' : Nat) (w : World) (h : Sits w m P Q c d) (h' : Sits w m P' Q' c' d') :
    Calls Try.prog 28 #[.agg #[.int .i64 m.n, .slice (some P) m.n c, .slice (some Q) m.n d], .agg #[.int .i64 m.n, .slice (some P') m.n c', .slice (some Q') m.n d']] w fun e w' => e = .returned (.bool true) ∧ Up w w' := by
  have := rsame_any m.ma m.ma (some P) (some Q) (some P') (some Q') m.n m.n m.n m.n c d c' d' w h.lies h'.lies
  rw [Ma.same_self] at this
  exact this
theorem rright_me (m : Me) (P Q : Addr) (c d : Nat) (w : World) (h : m.ok) :
    Calls Try.prog 36 #[.agg #[.int .i64 m.n, .slice (some P) m.n c, .slice (some Q) m.n d]] w fun e w' => e = .returned (.bool true) ∧ Up w w' := by
  have := rmright_any m.n (some P) (some Q) m.n m.n c d w
  rw [show rt m.n m.n m.n = true from by unfold rt; exact decide_eq_true ⟨by have := h.1; omega, by have := h.2.1; omega, rfl, rfl⟩] at this
  exact this
end Go.Proofs.Ytgcpkgogjcgfbaa
