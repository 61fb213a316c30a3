/- Memory as plain lists of words: what was stored is loaded, what was moved is there, nothing else changes. -/
import Derived.Test.YtoneandmbnfcoaaLw
namespace Go.Proofs.Ytoneandmbnfcoaa
open Go.ChangeShapes Go.WideShapes Go.ChangeAt Go.RowKit
set_option linter.unusedVariables false
set_option linter.unusedSimpArgs false

theorem whs_01 (a : Int) : whs a = 0 ∨ whs a = 1 := by unfold whs; split <;> simp
theorem whp_nn (a : Int) : 0 ≤ whp a := by unfold whp; split <;> omega
/-- An address is that of its place. -/
theorem adr_of {a : Int} (h : whb a = true) : a = (whs a + 1) * 4294967296 + whp a := by
  have h := of_decide_eq_true h
  unfold whs whp
  rw [if_pos h]
  rcases h with h | h
  · rw [if_neg (by omega)]; omega
  · rw [if_pos h]; omega
theorem adr_same {a b : Int} (ha : whb a = true) (hb : whb b = true) (hs : whs a = whs b) (hp : whp a = whp b) : a = b := by
  rw [adr_of ha, adr_of hb, hs, hp]
theorem Me.sp_put_ne (m : Me) {s t : Int} (hs : s = 0 ∨ s = 1) (ht : t = 0 ∨ t = 1) (h : s ≠ t) (l : List Int) : (m.put s l).sp t = m.sp t := by
  rcases hs with rfl | rfl <;> rcases ht with rfl | rfl <;> first | rfl | exact absurd rfl h
theorem Me.put_comm (m : Me) {s t : Int} (hs : s = 0 ∨ s = 1) (ht : t = 0 ∨ t = 1) (h : s ≠ t) (l l' : List Int) : (m.put s l).put t l' = (m.put t l').put s l := by
  rcases hs with rfl | rfl <;> rcases ht with rfl | rfl <;> first | rfl | exact absurd rfl h
theorem there_n {m m' : Me} (h : m'.n = m.n) (a : Int) : m'.there a ↔ m.there a := by unfold Me.there; rw [h]
theorem lde_n {m m' : Me} (h : m'.n = m.n) (a : Int) : m'.lde a = m.lde a := by
  unfold Me.lde
  by_cases k : m.there a
  · rw [if_pos k, if_pos ((there_n h a).2 k)]
  · rw [if_neg k, if_neg (fun q => k ((there_n h a).1 q))]
theorem Me.st_n (m : Me) (a v : Int) : (m.st a v).n = m.n := by
  unfold Me.st
  split
  · exact Me.put_n _ _ _
  · rfl
theorem Me.mv_n (m : Me) (a b k : Int) : (m.mv a b k).n = m.n := by
  unfold Me.mv
  split
  · exact Me.put_n _ _ _
  · rfl
theorem Me.clr_n (m : Me) (s : Int) : (m.clr s).n = m.n := by
  unfold Me.clr
  split
  · exact Me.put_n _ _ _
  · rfl
theorem Me.sw_n (m : Me) (a o v : Int) : (m.sw a o v).n = m.n := by
  unfold Me.sw
  split
  · exact Me.st_n _ _ _
  · rfl

/-- What was stored is loaded. -/
theorem st_ld {m : Me} (hm : m.ok) {a v : Int} (h : m.there a) : (m.st a v).ld a = v := by
  rw [show (m.st a v).ld a = _ from if_pos ((there_n (Me.st_n m a v) a).2 h), show m.st a v = _ from if_pos h, Me.sp_put m (whs_01 a)]
  have hp := whp_nn a
  have hl : (whp a).toNat < (m.sp (whs a)).length := by rw [Me.len_sp hm]; have := h.2; omega
  simp [List.getD, hl]
/-- What is loaded elsewhere is as it was. -/
theorem st_other {m : Me} {a b v : Int} (hne : a ≠ b) : (m.st a v).ld b = m.ld b := by
  by_cases ha : m.there a
  · by_cases hb : m.there b
    · rw [show (m.st a v).ld b = _ from if_pos ((there_n (Me.st_n m a v) b).2 hb), show m.ld b = _ from if_pos hb, show m.st a v = _ from if_pos ha]
      by_cases hs : whs a = whs b
      · rw [← hs, Me.sp_put m (whs_01 a)]
        have hp : (whp a).toNat ≠ (whp b).toNat := fun e => hne (adr_same ha.1 hb.1 hs (by have := whp_nn a; have := whp_nn b; omega))
        simp [List.getD, List.getElem?_set, hp]
      · rw [Me.sp_put_ne m (whs_01 a) (whs_01 b) hs]
    · rw [show (m.st a v).ld b = 0 from if_neg (fun q => hb ((there_n (Me.st_n m a v) b).1 q)), show m.ld b = 0 from if_neg hb]
  · rw [show m.st a v = m from if_neg ha]
/-- Two words that are stored at two addresses hang on no order. -/
theorem st_comm {m : Me} {a b v x : Int} (hne : a ≠ b) : (m.st a v).st b x = (m.st b x).st a v := by
  by_cases ha : m.there a
  · by_cases hb : m.there b
    · rw [show (m.st a v).st b x = _ from if_pos ((there_n (Me.st_n m a v) b).2 hb), show (m.st b x).st a v = _ from if_pos ((there_n (Me.st_n m b x) a).2 ha), show m.st a v = _ from if_pos ha, show m.st b x = _ from if_pos hb]
      by_cases hs : whs a = whs b
      · rw [← hs, Me.sp_put m (whs_01 a), Me.sp_put m (whs_01 a), Me.put_put m (whs_01 a), Me.put_put m (whs_01 a)]
        have hp : (whp a).toNat ≠ (whp b).toNat := fun e => hne (adr_same ha.1 hb.1 hs (by have := whp_nn a; have := whp_nn b; omega))
        rw [List.set_comm _ _ hp]
      · rw [Me.sp_put_ne m (whs_01 a) (whs_01 b) hs, Me.sp_put_ne m (whs_01 b) (whs_01 a) (Ne.symm hs), Me.put_comm m (whs_01 a) (whs_01 b) hs]
    · rw [show m.st b x = m from if_neg hb, show (m.st a v).st b x = m.st a v from if_neg (fun q => hb ((there_n (Me.st_n m a v) b).1 q))]
  · rw [show m.st a v = m from if_neg ha, show (m.st b x).st a v = m.st b x from if_neg (fun q => ha ((there_n (Me.st_n m b x) a).1 q))]

/-- A space that is cleared has nothing but 0; the other one is as it was. -/
theorem clr_same {m : Me} (hm : m.ok) {a s : Int} (hs : whs a = s) : (m.clr s).ld a = 0 := by
  subst hs
  by_cases h : m.there a
  · rw [show (m.clr (whs a)).ld a = _ from if_pos ((there_n (Me.clr_n m _) a).2 h), show m.clr (whs a) = _ from if_pos (whs_01 a), Me.sp_put m (whs_01 a)]
    simp [List.getD, zers, List.getElem?_replicate]
    split <;> rfl
  · exact if_neg (fun q => h ((there_n (Me.clr_n m _) a).1 q))
theorem clr_other {m : Me} {a s : Int} (hs : whs a ≠ s) : (m.clr s).ld a = m.ld a := by
  by_cases k : s = 0 ∨ s = 1
  · by_cases h : m.there a
    · rw [show (m.clr s).ld a = _ from if_pos ((there_n (Me.clr_n m _) a).2 h), show m.ld a = _ from if_pos h, show m.clr s = _ from if_pos k, Me.sp_put_ne m k (whs_01 a) (Ne.symm hs)]
    · rw [show (m.clr s).ld a = 0 from if_neg (fun q => h ((there_n (Me.clr_n m _) a).1 q)), show m.ld a = 0 from if_neg h]
  · rw [show m.clr s = m from if_neg k]

/-- What was moved is there, word by word, as it was. -/
theorem mv_len {m : Me} (hm : m.ok) {a b k : Int} (h : m.mvok a b k) : ((((m.sp (whs a)).drop (whp a).toNat).take k.toNat)).length = k.toNat := by
  have h0 := h.1
  have h1 := h.2.1.2.1
  have := whp_nn a
  rw [List.length_take, List.length_drop, Me.len_sp hm]
  omega
theorem mv_fit {m : Me} (hm : m.ok) {a b k : Int} (h : m.mvok a b k) : (whp b).toNat + (((m.sp (whs a)).drop (whp a).toNat).take k.toNat).length ≤ (m.sp (whs b)).length := by
  rw [mv_len hm h, Me.len_sp hm]
  have h0 := h.1
  have h1 := h.2.2.2.1
  have := whp_nn b
  omega
theorem wh_add {m : Me} {a k i : Int} (hm : m.ok) (ha : whb a = true) (hr : Runs m.n k (whp a)) (h0 : 0 ≤ i) (h1 : i < k) : whs (a + i) = whs a ∧ whp (a + i) = whp a + i ∧ whb (a + i) = true := by
  have e := adr_of ha
  have hp := whp_nn a
  have hn := hm.2.1
  have h2 := hr.1
  have hl : Leads (a + i) (whs a) (whp a + i) := ⟨whs_01 a, by omega, by omega, by omega⟩
  exact hl.is
theorem mv_there {m : Me} (hm : m.ok) {a b k i : Int} (h : m.mvok a b k) (h0 : 0 ≤ i) (h1 : i < k) :
    m.lde (a + i) = 0 ∧ (m.mv a b k).lde (b + i) = 0 ∧ (m.mv a b k).ld (b + i) = m.ld (a + i) := by
  obtain ⟨a1, a2, a3⟩ := wh_add hm h.2.1.1 h.2.1.2 h0 h1
  obtain ⟨b1, b2, b3⟩ := wh_add hm h.2.2.1 h.2.2.2 h0 h1
  have ra := h.2.1.2.1
  have rb := h.2.2.2.1
  have ta : m.there (a + i) := ⟨a3, by omega⟩
  have tb : m.there (b + i) := ⟨b3, by omega⟩
  have tb' := (there_n (Me.mv_n m a b k) (b + i)).2 tb
  refine ⟨if_pos ta, if_pos tb', ?_⟩
  have hpa := whp_nn a
  have hpb := whp_nn b
  rw [show (m.mv a b k).ld (b + i) = _ from if_pos tb', show m.ld (a + i) = _ from if_pos ta, show m.mv a b k = _ from if_pos h, b1, Me.sp_put m (whs_01 b), b2, a1, a2]
  unfold List.getD
  rw [getElem?_splice _ _ _ _ (mv_fit hm h), mv_len hm h, if_neg (by omega), if_pos (by omega), List.getElem?_take, if_pos (by omega), List.getElem?_drop]
  congr 2
  omega
theorem mv_lde (m : Me) (a b k x : Int) : (m.mv a b k).lde x = m.lde x := lde_n (Me.mv_n m a b k) x
theorem mv_out {m : Me} (hm : m.ok) {a b k x : Int} (h : m.mvok a b k) (hx : ¬ (b ≤ x ∧ x - b < k)) : (m.mv a b k).ld x = m.ld x := by
  by_cases t : m.there x
  · rw [show (m.mv a b k).ld x = _ from if_pos ((there_n (Me.mv_n m a b k) x).2 t), show m.ld x = _ from if_pos t, show m.mv a b k = _ from if_pos h]
    by_cases hs : whs b = whs x
    · rw [← hs, Me.sp_put m (whs_01 b)]
      have hpx := whp_nn x
      have hpb := whp_nn b
      have ex := adr_of t.1
      have eb := adr_of h.2.2.1
      rw [hs] at eb
      have h0 := h.1
      unfold List.getD
      rw [getElem?_splice _ _ _ _ (mv_fit hm h), mv_len hm h]
      by_cases q0 : (whp x).toNat < (whp b).toNat
      · rw [if_pos q0]
      · rw [if_neg q0, if_neg (by omega)]
    · rw [Me.sp_put_ne m (whs_01 b) (whs_01 x) hs]
  · rw [show (m.mv a b k).ld x = 0 from if_neg (fun q => t ((there_n (Me.mv_n m a b k) x).1 q)), show m.ld x = 0 from if_neg t]
theorem mve_ok {m : Me} {a b k : Int} (h : m.mve a b k = 0) : m.mvok a b k := by
  unfold Me.mve at h
  split at h
  · cases h
  · split at h
    · assumption
    · cases h
theorem mv_no {m : Me} {a b k : Int} (h : m.mve a b k ≠ 0) : m.mv a b k = m := by
  refine if_neg (fun q => h ?_)
  exact (if_neg (by have := q.1; omega)).trans (if_pos q)

/-- Two that are the same memory are the same. -/
theorem rsame_self (m : Me) (P Q P' Q' : Addr) (c d c' d' : Nat) (w : World) (h : Sits w m P Q c d) (h' : Sits w m P' Q' c' d') :
    Calls Try.prog 21 #[.agg #[.int .i64 m.n, .slice (some P) m.n c, .slice (some Q) m.n d], .agg #[.int .i64 m.n, .slice (some P') m.n c', .slice (some Q') m.n d']] w fun e w' => e = .returned (.bool true) ∧ Up w w' := by
  have := rsame_any m.ma m.ma (some P) (some Q) (some P') (some Q') m.n m.n m.n m.n c d c' d' w h.lies h'.lies
  rw [Ma.same_self] at this
  exact this
theorem rright_me (m : Me) (P Q : Addr) (c d : Nat) (w : World) (h : m.ok) :
    Calls Try.prog 28 #[.agg #[.int .i64 m.n, .slice (some P) m.n c, .slice (some Q) m.n d]] w fun e w' => e = .returned (.bool true) ∧ Up w w' := by
  have := rright_any m.n (some P) (some Q) m.n m.n c d w
  rw [show rt m.n m.n m.n = true from by unfold rt; exact decide_eq_true ⟨by have := h.1; omega, by have := h.2.1; omega, rfl, rfl⟩] at this
  exact this
end Go.Proofs.Ytoneandmbnfcoaa
