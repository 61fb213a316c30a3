/- What is reached in order is a right graph again, no greater. -/
import Derived.Test.YtlocllcijncllaaCq
namespace Go.Proofs.Ytlocllcijncllaa
open Go.Joins Go.ChangeShapes Go.WideShapes Go.ChangeAt Go.RowKit Go.Deep Go.Shelf Go.Maps
set_option linter.unusedVariables false
set_option linter.unusedSimpArgs false

theorem pl_bd (o : List Int) (h : Int) : 0 ≤ pl o h ∧ pl o h ≤ o.length := by
  by_cases k : h ∈ o
  · have := pl_in k
    omega
  · unfold pl
    rw [if_neg k]
    omega
theorem canon_len {g : Gr} (hn : g.1.length ≤ 100) : (canon g).1.length ≤ g.1.length ∧ (canon g).2.length = g.2.length ∧ (canon g).2.flatten.length = g.2.flatten.length := by
  refine ⟨?_, ?_, ?_⟩
  · show ((ord g).map _).length ≤ _
    rw [List.length_map]
    exact (ord_more hn).td.len
  · show (g.2.map _).length = _
    rw [List.length_map]
  · have e : (canon g).2 = g.2.map (List.map (pl (ord g))) := rfl
    rw [e, ← List.map_flatten, List.length_map]
theorem canon_rg {g : Gr} (hR : Rg g) (hn : g.1.length ≤ 100) : Rg (canon g) := by
  have M := ord_more hn
  have hlen : (ord g).length ≤ g.1.length := M.td.len
  have hc : (canon g).1.length = (ord g).length := by
    show ((ord g).map _).length = _
    rw [List.length_map]
  have mem : ∀ n ∈ (canon g).1, ∃ m ∈ g.1, n = mpF (pl (ord g)) m := fun n h => by
    obtain ⟨h1, h2, rfl⟩ := List.mem_map.1 h
    exact ⟨_, ndOf_mem (M.td.inn h1 h2), rfl⟩
  refine ⟨fun n h => ?_, fun n h => ?_, fun n h x hx => ?_, fun n h i hi hp => ?_, fun row hr h hh => ?_⟩
  · obtain ⟨m, hm, rfl⟩ := mem n h
    have := hR.hd m hm
    rw [mp_len]
    exact this
  · obtain ⟨m, hm, rfl⟩ := mem n h
    exact hR.mp m hm
  · obtain ⟨m, hm, rfl⟩ := mem n h
    obtain ⟨i, hi, rfl⟩ := List.mem_map.1 hx
    have hi := List.mem_range.1 hi
    have b := pl_bd (ord g) (m.2.getD i 0)
    have f := hR.fu m hm (m.2.getD i 0) (getD_mem 0 hi)
    show U64 (if isP m (i : Int) = true then pl (ord g) (m.2.getD i 0) else m.2.getD i 0)
    split
    · exact ⟨b.1, by omega⟩
    · exact f
  · obtain ⟨m, hm, rfl⟩ := mem n h
    rw [mp_len] at hi
    rw [mp_isP] at hp
    rw [mp_at _ m hi, if_pos hp, hc]
    exact (pl_bd _ _).2
  · obtain ⟨row', h1, rfl⟩ := List.mem_map.1 hr
    obtain ⟨h', h2, rfl⟩ := List.mem_map.1 hh
    rw [hc]
    exact pl_bd _ _
/-- Graphs in order may be gone on with. -/
theorem Okk.canon {g : Gr} {j : Nat} (h : Okk j g) (hj : j ≤ 40) : Okk j (canon g) := by
  have n1 := h.n
  obtain ⟨l1, l2, l3⟩ := canon_len (g := g) (by omega)
  have s1 := h.s
  have b1 := h.b
  exact ⟨canon_rg h.rg (by omega), by omega, by omega, by omega⟩
end Go.Proofs.Ytlocllcijncllaa
