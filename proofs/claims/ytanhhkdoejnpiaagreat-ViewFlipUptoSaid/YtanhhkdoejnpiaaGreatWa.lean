/- Between the two kinds of rows; each handle once reaches what all reach; few (dovecotelaw16.few): contract. -/
import Derived.Test.YtanhhkdoejnpiaaGreatSa
import Derived.Test.YtanhhkdoejnpiaaGreatKa
namespace Go.Proofs.YtanhhkdoejnpiaaGreat.G
open Go.Joins Go.ChangeShapes Go.WideShapes Go.ChangeAt Go.RowKit Go.Deep Go.Shelf Go.Maps
set_option linter.unusedVariables false
set_option linter.unusedSimpArgs false

theorem rv_of_rd {w : World} {A : Option Addr} {n : Nat} {xs : List Int} (h : Rd w A n xs) : RV w A (xs.map (Value.int .u64)) := fun q => by
  have hn : 0 < n := by
    rcases Nat.eq_zero_or_pos n with e | e
    · exact absurd (by rw [List.eq_nil_of_length_eq_zero (h.1.trans e)]; rfl) q
    · exact e
  obtain ⟨p, e, hr⟩ := h.2 hn
  refine ⟨p, e, hr.1, fun j v hj => ?_⟩
  rw [List.getElem?_map] at hj
  cases hx : xs[j]? with
  | none => rw [hx] at hj; cases hj
  | some x => rw [hx] at hj; cases hj; exact hr.2 j x hx
theorem sl_of_k {w : World} {v : Value} {xs : List Int} (h : K.Sl w v xs) : Sl .u64 w v xs := by
  obtain ⟨A, c, e, h1, h2, h3, h4⟩ := h
  exact ⟨A, c, e, h1, h2, h3, rv_of_rd h4⟩
theorem rw_of_k {w : World} {v : Value} {L : List (List Int)} (h : K.Rw w v L) : Rw .u64 w v L := by
  obtain ⟨A, c, e, h1, h2, h3, h4⟩ := h
  rcases Nat.eq_zero_or_pos L.length with h0 | h0
  · obtain rfl := List.eq_nil_of_length_eq_zero h0
    exact ⟨[], A, c, e, h1, h2, h3, RV.nil _ _, rfl, fun j u xs hj => by simp at hj⟩
  · obtain ⟨p, rfl, hp, hc⟩ := h4 h0
    refine ⟨(List.range L.length).map fun j => (w.cell? (p.add j)).getD undef, some p, c, e, h1, h2, h3, fun _ => ⟨p, rfl, hp, fun j v hj => ?_⟩, by simp, fun j u xs hj hx => ?_⟩
    · rw [List.getElem?_map] at hj
      have hjl : j < L.length := by
        rcases Nat.lt_or_ge j L.length with q | q
        · exact q
        · rw [List.getElem?_eq_none (by simpa using q)] at hj; cases hj
      rw [List.getElem?_range hjl] at hj
      obtain ⟨u, hu, _⟩ := hc j L[j] (List.getElem?_eq_getElem hjl)
      simp only [Option.map_some, hu, Option.getD_some, Option.some.injEq] at hj
      rw [hu, hj]
    · rw [List.getElem?_map] at hj
      have hjl : j < L.length := by
        rcases Nat.lt_or_ge j L.length with q | q
        · exact q
        · rw [List.getElem?_eq_none q] at hx; cases hx
      rw [List.getElem?_range hjl] at hj
      obtain ⟨u', hu, hs⟩ := hc j xs hx
      simp only [Option.map_some, hu, Option.getD_some, Option.some.injEq] at hj
      subst hj
      exact sl_of_k hs
theorem unq_mem {l : List Int} {a : Int} (h : a ∈ K.unq l) : a ∈ l := by
  obtain ⟨r, rfl⟩ : ∃ r : List Int, l = r.reverse := ⟨l.reverse, by simp⟩
  induction r with
  | nil => exact h
  | cons b r ih =>
    rw [List.reverse_cons, K.unq_snoc] at h
    rw [List.reverse_cons]
    split at h
    · exact List.mem_append.2 (.inl (ih h))
    · rcases List.mem_append.1 h with q | q
      · exact List.mem_append.2 (.inl (ih q))
      · exact List.mem_append.2 (.inr q)
theorem rch_unq (m : Me) (l : List Int) : m.rch (K.unq l) = m.rch l := by
  obtain ⟨r, rfl⟩ : ∃ r : List Int, l = r.reverse := ⟨l.reverse, by simp⟩
  induction r with
  | nil => rfl
  | cons b r ih =>
    rw [List.reverse_cons, K.unq_snoc, rch_snoc]
    split
    · rename_i h
      rw [ih]
      refine (Go.Proofs.YtanhhkdoejnpiaaGreat.vis_no ?_).symm
      rcases List.mem_cons.1 h with q | q
      · exact .inl (by rw [q]; exact real_0 m)
      · by_cases hr : m.real b = true
        · exact .inr ((rch_facts m r.reverse).2.2.2.1 b (unq_mem q) hr)
        · exact .inl (by simpa using hr)
    · rw [rch_snoc, ih]
theorem fws_real {m : Me} : ∀ l : List Int, (∀ x ∈ l, m.real x = true) → m.fws l = 0
  | [], _ => rfl
  | a :: r, h => by
    show m.fw a + m.fws r = 0
    rw [fws_real r (fun x hx => h x (List.mem_cons_of_mem _ hx))]
    have := kne_0.1 (of_decide_eq_true (h a List.mem_cons_self))
    have hf : m.fw a = 0 := if_neg (fun q => this.2 q.2)
    omega
theorem fws_rch (m : Me) (l : List Int) : m.fws (m.rch l) = 0 := fws_real _ (rch_facts m l).2.1
end Go.Proofs.YtanhhkdoejnpiaaGreat.G
