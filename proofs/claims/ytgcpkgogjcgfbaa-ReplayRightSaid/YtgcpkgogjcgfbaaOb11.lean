/- What is put is there; a field that was set is got; all else is as it was: said of memory as plain lists, without the program. -/
import Derived.Test.YtgcpkgogjcgfbaaOb10
namespace Go.Proofs.Ytgcpkgogjcgfbaa
open Go.ChangeShapes Go.WideShapes Go.ChangeAt Go.RowKit
set_option linter.unusedVariables false
set_option linter.unusedSimpArgs false

theorem wrd_parts {t l mp : Int} (hmp : 0 ≤ mp) (h : rte t l mp = 0) : tgw (wrd t l mp) = t ∧ lnw (wrd t l mp) = l ∧ mpw (wrd t l mp) = mp ∧ U64 (wrd t l mp) := by
  obtain ⟨h0, h1, h2, h3, h4, h5⟩ := rte_small hmp h
  unfold tgw lnw mpw wrd U64
  refine ⟨?_, ?_, ?_, ?_, ?_⟩ <;> omega

theorem Me.ok.put {m : Me} (h : m.ok) (s : Int) {l : List Int} (hl : l.length = m.n) : (m.put s l).ok := by
  unfold Me.put
  split
  · exact ⟨h.1, h.2.1, h.2.2.1, hl⟩
  · exact ⟨h.1, h.2.1, hl, h.2.2.2⟩
theorem Me.ok.st {m : Me} (h : m.ok) (a v : Int) : (m.st a v).ok := by
  unfold Me.st
  split
  · exact h.put _ (by rw [List.length_set, Me.len_sp h])
  · exact h
theorem Me.ok.zs {m : Me} (h : m.ok) (a : Int) (k : Nat) : (m.zs a k).ok := by
  induction k with
  | zero => exact h
  | succ k ih => exact ih.st _ _
theorem zs_out {m : Me} {a b : Int} {k : Nat} (h : ∀ j : Nat, j < k → b ≠ a + (j + 1)) : (m.zs a k).ld b = m.ld b := by
  induction k with
  | zero => rfl
  | succ k ih =>
    show ((m.zs a k).st (a + (k + 1)) 0).ld b = m.ld b
    rw [st_other (fun e => h k (by omega) e.symm)]
    exact ih (fun j hj => h j (by omega))
theorem zs_in {m : Me} (hm : m.ok) {a : Int} {k : Nat} (h : ∀ j : Nat, j < k → m.there (a + (j + 1))) : ∀ j : Nat, j < k → (m.zs a k).ld (a + (j + 1)) = 0 := by
  induction k with
  | zero => intro j hj; omega
  | succ k ih =>
    intro j hj
    show ((m.zs a k).st (a + (k + 1)) 0).ld (a + (j + 1)) = 0
    by_cases e : j = k
    · subst e
      exact st_ld (hm.zs a j) ((there_n (Me.zs_n m a j) _).2 (h j (by omega)))
    · rw [st_other (by omega)]
      exact ih (fun i hi => h i (by omega)) j (by omega)

section
variable {m : Me} {a t l mp : Int}
theorem blk_n (m : Me) (a t l : Int) : (m.blk a t l).n = m.n := by
  unfold Me.blk
  split
  · rfl
  · exact Me.zs_n _ _ _
theorem put_n (m : Me) (a t l mp : Int) : (m.putm a t l mp).n = m.n := by
  unfold Me.putm
  split
  · exact (blk_n _ _ _ _).trans (Me.st_n _ _ _)
  · rfl
theorem put_wf (hmp : 0 ≤ mp) (hw : m.wf) : (m.putm a t l mp).wf := by
  unfold Me.putm
  split
  · rename_i h
    have := hw.st (wrd_parts hmp h.1).2.2.2 a
    unfold Me.blk
    split
    · exact this
    · exact this.zs _ _
  · exact hw
theorem put_ld (hm : m.ok) (hmp : 0 ≤ mp) (h : m.pok a t l mp) : (m.putm a t l mp).ld a = wrd t l mp := by
  have e := st_ld hm (v := wrd t l mp) (pok_there hmp h)
  rw [show m.putm a t l mp = _ from if_pos h]
  unfold Me.blk
  split
  · exact e
  · rw [zs_out (fun j _ => by omega)]
    exact e
theorem put_at (hm : m.ok) (hmp : 0 ≤ mp) (h : m.pok a t l mp) : (m.putm a t l mp).atok a ∧ (m.putm a t l mp).att a = t ∧ (m.putm a t l mp).atl a = l ∧ (m.putm a t l mp).atm a = mp := by
  have e := put_ld hm hmp h
  obtain ⟨e1, e2, e3, e4⟩ := wrd_parts hmp h.1
  have hk : (m.putm a t l mp).atok a := by
    refine ⟨(there_n (put_n m a t l mp) a).2 (pok_there hmp h), ?_, ?_⟩
    · rw [e]; unfold tkb; rw [e1, e2, e3]; exact h.1
    · rw [e, e1, e2]; exact (inn_n (put_n m a t l mp) a _).2 h.2
  obtain ⟨q1, q2, q3⟩ := at_of hk
  rw [q1, q2, q3, e, e1, e2, e3]
  exact ⟨hk, rfl, rfl, rfl⟩
theorem put_zero (hm : m.ok) (hmp : 0 ≤ mp) (h : m.pok a t l mp) (ht : t ≠ 255) (j : Int) (h0 : 1 ≤ j) (h1 : j < l + 2) : (m.putm a t l mp).ld (a + j) = 0 := by
  rw [show m.putm a t l mp = _ from if_pos h, show (m.st a (wrd t l mp)).blk a t l = _ from if_neg ht]
  have hi := h.2
  rw [show wdn t l = l + 2 from if_neg ht] at hi
  have e := zs_in (hm.st a (wrd t l mp)) (a := a) (k := (l + 1).toNat) (fun j hj => (there_n (Me.st_n _ _ _) _).2 (inn_off (j := (j + 1 : Int)) hm.2.1 hi (by omega) (by omega)).2.2.1) (j - 1).toNat (by omega)
  rw [show a + (((j - 1).toNat : Int) + 1) = a + j from by omega] at e
  exact e
theorem put_out (hmp : 0 ≤ mp) (b : Int) (hb : b < a ∨ a + wdn t l ≤ b) : (m.putm a t l mp).ld b = m.ld b := by
  unfold Me.putm
  split
  · rename_i h
    have hw := (wdn_small hmp h.1).1
    have e : (m.st a (wrd t l mp)).ld b = m.ld b := st_other (by omega)
    unfold Me.blk
    split
    · exact e
    · rename_i ht
      have hl := (rte_small hmp h.1).2.2.1
      rw [show wdn t l = l + 2 from if_neg ht] at hb
      rw [zs_out (fun j hj => by omega)]
      exact e
  · rfl
theorem put_kne (hm : m.ok) (hmp : 0 ≤ mp) (h : m.pok a t l mp) : (m.putm a t l mp).kne a = unl (t != 255) 8 := by
  obtain ⟨h1, h2, _, _⟩ := put_at hm hmp h
  exact (if_pos h1).trans (by rw [h2])
end

section
variable {m s : Me} {a : Int}
theorem same_ok (hn : s.n = m.n) (hl : s.ld a = m.ld a) : s.atok a ↔ m.atok a := by
  unfold Me.atok
  rw [hl, there_n hn, inn_n hn]
theorem same_at (hn : s.n = m.n) (hl : s.ld a = m.ld a) : s.att a = m.att a ∧ s.atl a = m.atl a ∧ s.atm a = m.atm a := by
  by_cases h : m.atok a
  · obtain ⟨e1, e2, e3⟩ := at_of h
    obtain ⟨f1, f2, f3⟩ := at_of ((same_ok hn hl).2 h)
    rw [e1, e2, e3, f1, f2, f3, hl]
    exact ⟨rfl, rfl, rfl⟩
  · obtain ⟨e1, e2, e3⟩ := at_no h
    obtain ⟨f1, f2, f3⟩ := at_no (fun q => h ((same_ok hn hl).1 q))
    rw [e1, e2, e3, f1, f2, f3]
    exact ⟨rfl, rfl, rfl⟩
theorem same_ate (hn : s.n = m.n) (hl : s.ld a = m.ld a) : s.ate a = m.ate a := by
  unfold Me.ate
  rw [hl]
  by_cases h : m.there a
  · rw [if_pos h, if_pos ((there_n hn a).2 h)]
    by_cases k : m.inn a (wdn (tgw (m.ld a)) (lnw (m.ld a)))
    · rw [if_pos k, if_pos ((inn_n hn a _).2 k)]
    · rw [if_neg k, if_neg (fun q => k ((inn_n hn a _).1 q))]
  · rw [if_neg h, if_neg (fun q => h ((there_n hn a).1 q))]
theorem same_kne (hn : s.n = m.n) (hl : s.ld a = m.ld a) : s.kne a = m.kne a := by
  unfold Me.kne
  rw [(same_at hn hl).1, same_ate hn hl]
  by_cases h : m.atok a
  · rw [if_pos h, if_pos ((same_ok hn hl).2 h)]
  · rw [if_neg h, if_neg (fun q => h ((same_ok hn hl).1 q))]
theorem same_fok (hn : s.n = m.n) (hl : s.ld a = m.ld a) (i : Int) : s.fok a i ↔ m.fok a i := by
  unfold Me.fok
  rw [same_kne hn hl, (same_at hn hl).2.1]
theorem same_gete (hn : s.n = m.n) (hl : s.ld a = m.ld a) (i : Int) : s.gete a i = m.gete a i := by
  unfold Me.gete
  rw [same_kne hn hl, (same_at hn hl).2.1]
theorem same_twv (hn : s.n = m.n) (hl : s.ld a = m.ld a) (h1 : s.ld (a + 1) = m.ld (a + 1)) : s.twv a = m.twv a := by
  unfold Me.twv
  rw [same_kne hn hl, h1]
theorem same_getv (hn : s.n = m.n) (hl : s.ld a = m.ld a) (i : Int) (h1 : m.fok a i → s.ld (a + 2 + i) = m.ld (a + 2 + i)) : s.getv a i = m.getv a i := by
  unfold Me.getv
  by_cases h : m.fok a i
  · rw [if_pos h, if_pos ((same_fok hn hl i).2 h)]
    exact h1 h
  · rw [if_neg h, if_neg (fun q => h ((same_fok hn hl i).1 q))]
theorem same_getb (hn : s.n = m.n) (hl : s.ld a = m.ld a) (i : Int) : s.getb a i = m.getb a i := by
  unfold Me.getb
  rw [(same_at hn hl).2.1, (same_at hn hl).2.2]
  by_cases h : m.fok a i
  · rw [if_pos h, if_pos ((same_fok hn hl i).2 h)]
  · rw [if_neg h, if_neg (fun q => h ((same_fok hn hl i).1 q))]
end
section
variable {m : Me} {a i v : Int}
theorem set_n (m : Me) (a i v : Int) : (m.setm a i v).n = m.n := by
  unfold Me.setm
  split
  · exact Me.st_n _ _ _
  · rfl
theorem set_wf (hw : m.wf) (hv : U64 v) : (m.setm a i v).wf := by
  unfold Me.setm
  split
  · exact hw.st hv _
  · exact hw
theorem set_ld (h : m.fok a i) (b : Int) (hb : b ≠ a + 2 + i) : (m.setm a i v).ld b = m.ld b := by
  rw [show m.setm a i v = _ from if_pos h]
  exact st_other (Ne.symm hb)
theorem set_got (hm : m.ok) (h : m.fok a i) : (m.setm a i v).ld (a + 2 + i) = v := by
  rw [show m.setm a i v = _ from if_pos h]
  exact st_ld hm (fok_off hm.2.1 h).1
end
end Go.Proofs.Ytgcpkgogjcgfbaa
