/- What a statement on graphs is handed, opened, as in Op: handles are int's, too. -/
import Derived.Test.YtlocllcijncllaaCs
namespace Go.Proofs.Ytlocllcijncllaa
open Go.Joins Go.ChangeShapes Go.WideShapes Go.ChangeAt Go.RowKit Go.Deep Go.Shelf Go.Maps
set_option linter.unusedVariables false
set_option linter.unusedSimpArgs false

section
variable {H : Type} {enc : TypeId × Value → H} {w : World}
theorem rows_rw2 {fuel : Nat} {v : Value} {x : DataW H × List MemPlace} (h : DataW.trod enc Try.prog w 0 (fun _ => true) true fuel 23 [v] = some x) : ∃ L, Rw .i64 w v L ∧ L.flatten.length + L.length ≤ Rows.uptoBulk x.1 ∧ ∀ row ∈ L, ∀ h ∈ row, I64 h := by
  rcases open_int_rows Try.underlying23 Try.underlying47 Try.underlying3 cells_ints cells_int h with ⟨h0, rfl⟩ | ⟨a, l, c, A, Ln, C, Z, hcs, -, hl, hm, rfl, hr⟩
  · simp only [List.cons.injEq, and_true] at h0
    subst h0
    exact ⟨[], Rw.nil _ w, by simp [Rows.uptoBulk], fun row hr => (by cases hr)⟩
  · simp only [List.cons.injEq, and_true] at hcs
    subst hcs
    refine ⟨(List.range l).map fun r => (Z r).take (Ln r), ⟨(List.range l).map fun r => .slice (A r) (Ln r) (C r), some a, c, by simp, by simpa using hl, hm, fun q => (by cases q), fun hp => ⟨a, rfl, ?_, fun j u hj => ?_⟩, by simp, fun j u xs h1 h2 => ?_⟩, ?_, fun row hr2 y hy => ?_⟩
    · have hlp : 0 < l := by
        rcases Nat.eq_zero_or_pos l with q | q
        · subst q; exact absurd rfl hp
        · exact q
      have := lt_of_cell (hr 0 (by omega)).1
      rwa [block_of_add] at this
    · have hjl : j < l := by
        rcases Nat.lt_or_ge j l with q | q
        · exact q
        · rw [List.getElem?_eq_none (by simpa using q)] at hj; cases hj
      rw [List.getElem?_map, List.getElem?_range hjl] at hj
      cases hj
      exact (hr j (by omega)).1
    · have hjl : j < l := by
        rcases Nat.lt_or_ge j l with q | q
        · exact q
        · rw [List.getElem?_eq_none (by simpa using q)] at h1; cases h1
      simp only [List.getElem?_map, List.getElem?_range hjl, Option.map_some, Option.some.injEq] at h1 h2
      subst h1
      subst h2
      obtain ⟨h1, h2, h3, h4, h5, h6, h7⟩ := hr j (by omega)
      exact row_sl h2 h3 h4 h6 (fun a' e => (h7 a' e).2)
    · have hs := sum_bulk (H := H) (fun r => intRow .i64 (A r) (Ln r) (Z r)) (fun r => (Z r).take (Ln r)) l (fun r hrl => by
        obtain ⟨h1, h2, h3, h4, h5, h6, h7⟩ := hr r (by omega)
        rw [List.length_take]
        have := row_bulk (H := H) (k := .i64) (A := A r) (l := Ln r) (zs := Z r) (by omega) (fun q => by rw [h4]; exact h6 q)
        omega)
      simp only [List.length_map, List.length_range, Rows.uptoBulk]
      omega
    · obtain ⟨i, hi', rfl⟩ := List.mem_map.1 hr2
      obtain ⟨h1, h2, h3, h4, h5, h6, h7⟩ := hr i (by have := List.mem_range.1 hi'; omega)
      exact i64_of_wf (h5 y (List.mem_of_mem_take hy))
set_option maxRecDepth 100000 in
theorem graph_cells2 {fuel : Nat} {cs : List Value} {x : DataW H × List MemPlace} (h : DataW.trod enc Try.prog w 0 (fun _ => true) true fuel 25 cs = some x) : ∃ (a b : Value) (g : Gr), cs = [a, b] ∧ GrV w (.agg #[a, b]) g ∧ GrIn g (Rows.uptoBulk x.1) ∧ ∀ row ∈ g.2, ∀ h ∈ row, I64 h := by
  obtain ⟨ys, n, _, hd, hcl, hlen, hg⟩ := DataW.trod_struct Try.underlying25 h
  rw [cells_graph] at hcl
  match cs, hcl with
  | [c0, c1], _ =>
    have f0 := hg 0 _ rfl
    have f1 := hg 1 _ rfl
    match ys, hlen with
    | [y0, y1], _ =>
      change DataW.trod enc Try.prog w 0 (fun _ => true) true n 22 (([c0, c1].drop 0).take (Try.prog.cellsOf 22)) = some y0 at f0
      rw [cells_nodes] at f0
      change DataW.trod enc Try.prog w 0 (fun _ => true) true n 23 (([c0, c1].drop 1).take (Try.prog.cellsOf 23)) = some y1 at f1
      rw [cells_rows] at f1
      obtain ⟨ns, h1, h2⟩ := nodes_ns (v := c0) f0
      obtain ⟨L, h3, h4, h5⟩ := rows_rw2 (v := c1) f1
      refine ⟨c0, c1, (ns, L), rfl, ⟨c0, c1, rfl, h1, h3⟩, ⟨h2, ?_⟩, h5⟩
      obtain ⟨d, p⟩ := x
      simp only [Prod.mk.injEq] at hd
      obtain ⟨rfl, -⟩ := hd
      simp only [Rows.uptoBulk, List.map_cons, List.map_nil, Rows.uptoBulkAll]
      omega
end
end Go.Proofs.Ytlocllcijncllaa
