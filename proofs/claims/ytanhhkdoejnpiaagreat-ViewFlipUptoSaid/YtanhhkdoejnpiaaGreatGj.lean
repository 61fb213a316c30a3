/- Graphs that are handed in, opened. -/
import Derived.Test.YtanhhkdoejnpiaaGreatGf
import Derived.Test.YtanhhkdoejnpiaaGreatGc
import Derived.Deep.Matrix
import Derived.SizedLaws
/-! Of stage 15 -/
namespace Go.Proofs.YtanhhkdoejnpiaaGreat.G
open Go.Joins Go.ChangeShapes Go.WideShapes Go.ChangeAt Go.RowKit Go.Deep Go.Shelf Go.Maps
set_option linter.unusedVariables false
set_option linter.unusedSimpArgs false

theorem bulk_one {H : Type} (d : DataW H) : 1 ≤ Rows.uptoBulk d := by
  cases d with
  | lit l => cases l <;> simp [Rows.uptoBulk]
  | nil => simp [Rows.uptoBulk]
  | ptr d => simp [Rows.uptoBulk]
  | slice elems spare => simp [Rows.uptoBulk]
  | agg parts => simp [Rows.uptoBulk]
  | iface t d => simp [Rows.uptoBulk]
  | map entries => simp [Rows.uptoBulk]
  | held h => simp [Rows.uptoBulk]
theorem bulk_len {H : Type} (l : List (DataW H)) : l.length ≤ Rows.uptoBulkAll l := by
  induction l with
  | nil => simp [Rows.uptoBulkAll]
  | cons x r ih => have := bulk_one x; simp only [Rows.uptoBulkAll, List.length_cons]; omega
theorem bulk_app {H : Type} (l r : List (DataW H)) : Rows.uptoBulkAll (l ++ r) = Rows.uptoBulkAll l + Rows.uptoBulkAll r := by
  induction l with
  | nil => simp [Rows.uptoBulkAll]
  | cons x l ih => simp only [List.cons_append, Rows.uptoBulkAll, ih]; omega
theorem row_bulk {H : Type} {k : IntKind} {A : Option Addr} {l : Nat} {zs : List Int} (hl : l ≤ zs.length) (hA : A = none → zs.length = 0) : l + 1 ≤ Rows.uptoBulk (H := H) (intRow k A l zs) := by
  cases A with
  | none => have := hA rfl; simp only [intRow, Rows.uptoBulk]; omega
  | some a =>
    unfold intRow
    simp only [Rows.uptoBulk]
    have := bulk_len (H := H) (lits k (zs.take l))
    have h2 : (lits (H := H) k (zs.take l)).length = l := by simp [lits]; omega
    omega
theorem sum_bulk {H : Type} (D : Nat → DataW H) (Z : Nat → List Int) : ∀ n, (∀ r, r < n → (Z r).length + 1 ≤ Rows.uptoBulk (D r)) → ((List.range n).map Z).flatten.length + n ≤ Rows.uptoBulkAll ((List.range n).map D)
  | 0, _ => by simp [Rows.uptoBulkAll]
  | n + 1, h => by
    have ih := sum_bulk D Z n (fun r hr => h r (by omega))
    have h1 := h n (by omega)
    rw [List.range_succ, List.map_append, List.map_append, bulk_app]
    simp only [List.map_cons, List.map_nil, Rows.uptoBulkAll, List.flatten_append, List.length_append, List.flatten_cons, List.flatten_nil, List.append_nil]
    omega
theorem cells_ints : Tryz.prog.cellsOf 72 = 1 := by kernel_rfl
theorem cells_rows : Tryz.prog.cellsOf 28 = 1 := by kernel_rfl
theorem cells_nodes : Tryz.prog.cellsOf 27 = 1 := by kernel_rfl
theorem cells_node : Tryz.prog.cellsOf 71 = 4 := by kernel_rfl
theorem cells_graph : Tryz.prog.cellsOf 30 = 2 := by kernel_rfl
section
variable {H : Type} {enc : TypeId × Value → H} {w : World}
theorem row_sl {k : IntKind} {A : Option Addr} {l c : Nat} {zs : List Int} (h1 : l ≤ c) (h2 : c ≤ maxLen) (h3 : zs.length = c) (h4 : A = none → c = 0) (h5 : ∀ a', A = some a' → ∀ i, i < c → w.cell? (a'.add i) = some (.int k (zs.getD i 0))) : Sl k w (.slice A l c) (zs.take l) := by
  have hl : (zs.take l).length = l := by rw [List.length_take]; omega
  refine ⟨A, c, by rw [hl], by omega, h2, h4, fun q => ?_⟩
  have hp : 0 < l := by
    rcases Nat.eq_zero_or_pos l with q2 | q2
    · subst q2; exact absurd rfl q
    · exact q2
  cases A with
  | none => have := h4 rfl; omega
  | some a =>
    refine ⟨a, rfl, ?_, fun j x hx => ?_⟩
    · have := lt_of_cell (h5 a rfl 0 (by omega))
      rwa [block_of_add] at this
    · rw [List.getElem?_map] at hx
      obtain ⟨y, hy, rfl⟩ := Option.map_eq_some_iff.1 hx
      have hj : j < l := by
        rcases Nat.lt_or_ge j (zs.take l).length with q | q
        · omega
        · rw [List.getElem?_eq_none q] at hy; cases hy
      rw [List.getElem?_take, if_pos hj] at hy
      rw [h5 a rfl j (by omega)]
      simp [List.getD, hy]
theorem int_at {fuel : Nat} {v : Value} {x : DataW H × List MemPlace} (h : DataW.trod enc Tryz.prog w 0 (fun _ => true) true fuel 3 [v] = some x) : ∃ n : Int, v = .int .i64 n ∧ I64 n := by
  obtain ⟨n, e, _, hw⟩ := DataW.trod_int Tryz.underlying3 h
  simp only [List.cons.injEq, and_true] at e
  exact ⟨n, e, i64_of_wf hw⟩
theorem u64_at {fuel : Nat} {v : Value} {x : DataW H × List MemPlace} (h : DataW.trod enc Tryz.prog w 0 (fun _ => true) true fuel 67 [v] = some x) : ∃ n : Int, v = .int .u64 n ∧ U64 n := by
  obtain ⟨n, e, _, hw⟩ := DataW.trod_int Tryz.underlying67 h
  simp only [List.cons.injEq, and_true] at e
  exact ⟨n, e, nn_of_wf hw, hi_of_wf hw⟩
theorem words_at {fuel : Nat} {v : Value} {x : DataW H × List MemPlace} (h : DataW.trod enc Tryz.prog w 0 (fun _ => true) true fuel 22 [v] = some x) : ∃ xs, Sl .u64 w v xs ∧ ∀ y ∈ xs, U64 y := by
  rcases open_ints Tryz.underlying22 Tryz.underlying67 cells_u64 h with ⟨h0, rfl⟩ | ⟨a, l, c, zs, hcs, -, hl, hm, hz, rfl, hc, hw⟩
  · simp only [List.cons.injEq, and_true] at h0
    subst h0
    exact ⟨[], Sl.nil _ w, fun y hy => (by cases hy)⟩
  · simp only [List.cons.injEq, and_true] at hcs
    subst hcs
    simp only [if_true] at hz
    exact ⟨zs.take l, row_sl hl hm hz (fun q => (by cases q)) (fun a' e i hi => by cases e; exact hc i (by omega)), fun x hx => K.u64_of_wf (hw x (List.mem_of_mem_take hx))⟩
set_option maxRecDepth 100000 in
theorem head_cells {fuel : Nat} {cs : List Value} {x : DataW H × List MemPlace} (h : DataW.trod enc Tryz.prog w 0 (fun _ => true) true fuel 69 cs = some x) : ∃ t l m : Int, cs = [.int .i64 t, .int .i64 l, .int .u64 m] ∧ U64 m := by
  obtain ⟨ys, n, _, hd, hcl, hlen, hg⟩ := DataW.trod_struct Tryz.underlying69 h
  rw [cells_head] at hcl
  match cs, hcl with
  | [c0, c1, c2], _ =>
    have f0 := hg 0 _ rfl
    have f1 := hg 1 _ rfl
    have f2 := hg 2 _ rfl
    match ys, hlen with
    | [y0, y1, y2], _ =>
      change DataW.trod enc Tryz.prog w 0 (fun _ => true) true n 3 (([c0, c1, c2].drop 0).take (Tryz.prog.cellsOf 3)) = some y0 at f0
      rw [cells_int] at f0
      change DataW.trod enc Tryz.prog w 0 (fun _ => true) true n 3 (([c0, c1, c2].drop 1).take (Tryz.prog.cellsOf 3)) = some y1 at f1
      rw [cells_int] at f1
      change DataW.trod enc Tryz.prog w 0 (fun _ => true) true n 67 (([c0, c1, c2].drop 2).take (Tryz.prog.cellsOf 67)) = some y2 at f2
      rw [cells_u64] at f2
      obtain ⟨a, rfl, _⟩ := int_at (v := c0) f0
      obtain ⟨b, rfl, _⟩ := int_at (v := c1) f1
      obtain ⟨c, rfl, hc⟩ := u64_at (v := c2) f2
      exact ⟨a, b, c, rfl, hc⟩
/-- A node's words are words. -/
def NdOk (n : Nd) : Prop := U64 n.1.2.2 ∧ ∀ x ∈ n.2, U64 x
set_option maxRecDepth 100000 in
theorem node_cells {fuel : Nat} {cs : List Value} {x : DataW H × List MemPlace} (h : DataW.trod enc Tryz.prog w 0 (fun _ => true) true fuel 71 cs = some x) : ∃ (n : Nd) (u : Value), cs = [.int .i64 n.1.1, .int .i64 n.1.2.1, .int .u64 n.1.2.2, u] ∧ Sl .u64 w u n.2 ∧ NdOk n := by
  obtain ⟨ys, n, _, hd, hcl, hlen, hg⟩ := DataW.trod_struct Tryz.underlying71 h
  rw [cells_node] at hcl
  match cs, hcl with
  | [c0, c1, c2, c3], _ =>
    have f0 := hg 0 _ rfl
    have f1 := hg 1 _ rfl
    match ys, hlen with
    | [y0, y1], _ =>
      change DataW.trod enc Tryz.prog w 0 (fun _ => true) true n 69 (([c0, c1, c2, c3].drop 0).take (Tryz.prog.cellsOf 69)) = some y0 at f0
      rw [cells_head] at f0
      change DataW.trod enc Tryz.prog w 0 (fun _ => true) true n 22 (([c0, c1, c2, c3].drop 3).take (Tryz.prog.cellsOf 22)) = some y1 at f1
      rw [cells_words] at f1
      obtain ⟨t, l, m, e, hm⟩ := head_cells (cs := [c0, c1, c2]) f0
      simp only [List.cons.injEq, and_true] at e
      obtain ⟨rfl, rfl, rfl⟩ := e
      obtain ⟨xs, hs, hu⟩ := words_at (v := c3) f1
      exact ⟨((t, l, m), xs), c3, rfl, hs, hm, hu⟩
set_option maxRecDepth 100000 in
theorem nodes_ns {fuel : Nat} {v : Value} {x : DataW H × List MemPlace} (h : DataW.trod enc Tryz.prog w 0 (fun _ => true) true fuel 27 [v] = some x) : ∃ ns, Ns w v ns ∧ ∀ n ∈ ns, NdOk n := by
  rcases open_slice Tryz.underlying27 h with ⟨h0, rfl⟩ | ⟨a, len, cap, m, n, D, Pl, hcs, -, hl, hm, hmm, rfl, hi⟩
  · simp only [List.cons.injEq, and_true] at h0
    subst h0
    exact ⟨[], Ns.nil w, fun y hy => (by cases hy)⟩
  · simp only [List.cons.injEq, and_true] at hcs
    subst hcs
    simp only [if_true] at hmm
    subst hmm
    have hz : ∀ i, i < m → ∃ z : Nd × Value, (w.cell? (a.add (i * 4)) = some (.int .i64 z.1.1.1) ∧ w.cell? (a.add (i * 4 + 1)) = some (.int .i64 z.1.1.2.1) ∧ w.cell? (a.add (i * 4 + 2)) = some (.int .u64 z.1.1.2.2) ∧ w.cell? (a.add (i * 4 + 3)) = some z.2) ∧ Sl .u64 w z.2 z.1.2 ∧ NdOk z.1 := by
      intro i him
      obtain ⟨cs', h1, h2⟩ := hi i him
      rw [cells_node] at h1
      obtain ⟨z, u, rfl, hs, hok⟩ := node_cells h2
      obtain ⟨_, _, h3⟩ := World.cells?_some h1
      have e0 := h3 0 (by omega)
      have e1 := h3 1 (by omega)
      have e2 := h3 2 (by omega)
      have e3 := h3 3 (by omega)
      rw [Addr.add_zero'] at e0
      rw [add_add] at e1 e2 e3
      exact ⟨(z, u), ⟨e0, e1, e2, e3⟩, hs, hok⟩
    obtain ⟨Z, hZ⟩ := choose_lt hz
    have hlen : ((List.range len).map fun i => (Z i).1).length = len := by simp
    have hlu : ((List.range len).map fun i => (Z i).2).length = ((List.range len).map fun i => (Z i).1).length := by simp
    refine ⟨(List.range len).map fun i => (Z i).1, ⟨(List.range len).map fun i => (Z i).2, some a, m, by rw [hlen], by rw [hlen]; exact hl, hm, fun q => (by cases q), fun hn => ⟨a, rfl, ?_, fun j u hj => ?_⟩, by simp, fun j u xs h1 h2 => ?_⟩, fun y hy => ?_⟩
    · have hl0 : 0 < len := by
        rcases Nat.eq_zero_or_pos len with q | q
        · subst q; exact absurd rfl hn
        · exact q
      have := lt_of_cell (hZ 0 (by omega)).1.1
      rwa [block_of_add] at this
    · have hjl : j < len * 4 := by
        have h4 := nvs_len _ _ hlu
        rw [hlen] at h4
        rcases Nat.lt_or_ge j (len * 4) with q | q
        · exact q
        · rw [List.getElem?_eq_none (by omega)] at hj; cases hj
      have hq : j / 4 < len := by omega
      have e := nvs_at ((List.range len).map fun i => (Z i).1) ((List.range len).map fun i => (Z i).2) (j / 4) (Z (j / 4)).1 (Z (j / 4)).2 (by simp [hq]) (by simp [hq])
      obtain ⟨z0, z1, z2, z3⟩ := (hZ (j / 4) (by omega)).1
      have hj4 : j = j / 4 * 4 ∨ j = j / 4 * 4 + 1 ∨ j = j / 4 * 4 + 2 ∨ j = j / 4 * 4 + 3 := by omega
      rcases hj4 with q | q | q | q
      · rw [q] at hj ⊢
        rw [e.1] at hj; cases hj; exact z0
      · rw [q] at hj ⊢
        rw [e.2.1] at hj; cases hj; exact z1
      · rw [q] at hj ⊢
        rw [e.2.2.1] at hj; cases hj; exact z2
      · rw [q] at hj ⊢
        rw [e.2.2.2] at hj; cases hj; exact z3
    · have hjl : j < len := by
        rcases Nat.lt_or_ge j len with q | q
        · exact q
        · rw [List.getElem?_eq_none (by simpa using q)] at h1; cases h1
      simp only [List.getElem?_map, List.getElem?_range hjl, Option.map_some, Option.some.injEq] at h1 h2
      subst h1
      subst h2
      exact (hZ j (by omega)).2.1
    · obtain ⟨i, hi', rfl⟩ := List.mem_map.1 hy
      exact (hZ i (by have := List.mem_range.1 hi'; omega)).2.2
theorem rows_rw {fuel : Nat} {v : Value} {x : DataW H × List MemPlace} (h : DataW.trod enc Tryz.prog w 0 (fun _ => true) true fuel 28 [v] = some x) : ∃ L, Rw .i64 w v L ∧ L.flatten.length + L.length ≤ Rows.uptoBulk x.1 := by
  rcases open_int_rows Tryz.underlying28 Tryz.underlying72 Tryz.underlying3 cells_ints cells_int h with ⟨h0, rfl⟩ | ⟨a, l, c, A, Ln, C, Z, hcs, -, hl, hm, rfl, hr⟩
  · simp only [List.cons.injEq, and_true] at h0
    subst h0
    exact ⟨[], Rw.nil _ w, by simp [Rows.uptoBulk]⟩
  · simp only [List.cons.injEq, and_true] at hcs
    subst hcs
    refine ⟨(List.range l).map fun r => (Z r).take (Ln r), ⟨(List.range l).map fun r => .slice (A r) (Ln r) (C r), some a, c, by simp, by simpa using hl, hm, fun q => (by cases q), fun hp => ⟨a, rfl, ?_, fun j u hj => ?_⟩, by simp, fun j u xs h1 h2 => ?_⟩, ?_⟩
    · have hlp : 0 < l := by
        rcases Nat.eq_zero_or_pos l with q | q
        · subst q; exact absurd rfl hp
        · exact q
      have := lt_of_cell (hr 0 (by omega)).1
      rwa [block_of_add] at this
    · have hjl : j < l := by
        rcases Nat.lt_or_ge j l with q | q
        · exact q
        · rw [List.getElem?_eq_none (by simpa using q)] at hj; cases hj
      rw [List.getElem?_map, List.getElem?_range hjl] at hj
      cases hj
      exact (hr j (by omega)).1
    · have hjl : j < l := by
        rcases Nat.lt_or_ge j l with q | q
        · exact q
        · rw [List.getElem?_eq_none (by simpa using q)] at h1; cases h1
      simp only [List.getElem?_map, List.getElem?_range hjl, Option.map_some, Option.some.injEq] at h1 h2
      subst h1
      subst h2
      obtain ⟨h1, h2, h3, h4, h5, h6, h7⟩ := hr j (by omega)
      exact row_sl h2 h3 h4 h6 (fun a' e => (h7 a' e).2)
    · have hs := sum_bulk (H := H) (fun r => intRow .i64 (A r) (Ln r) (Z r)) (fun r => (Z r).take (Ln r)) l (fun r hrl => by
        obtain ⟨h1, h2, h3, h4, h5, h6, h7⟩ := hr r (by omega)
        rw [List.length_take]
        have := row_bulk (H := H) (k := .i64) (A := A r) (l := Ln r) (zs := Z r) (by omega) (fun q => by rw [h4]; exact h6 q)
        omega)
      simp only [List.length_map, List.length_range, Rows.uptoBulk]
      omega
/-- A graph that came in. -/
structure GrIn (g : Gr) (B : Nat) : Prop where
  nd : ∀ n ∈ g.1, NdOk n
  st : g.2.flatten.length + g.2.length ≤ B
set_option maxRecDepth 100000 in
theorem graph_cells {fuel : Nat} {cs : List Value} {x : DataW H × List MemPlace} (h : DataW.trod enc Tryz.prog w 0 (fun _ => true) true fuel 30 cs = some x) : ∃ (a b : Value) (g : Gr), cs = [a, b] ∧ GrV w (.agg #[a, b]) g ∧ GrIn g (Rows.uptoBulk x.1) := by
  obtain ⟨ys, n, _, hd, hcl, hlen, hg⟩ := DataW.trod_struct Tryz.underlying30 h
  rw [cells_graph] at hcl
  match cs, hcl with
  | [c0, c1], _ =>
    have f0 := hg 0 _ rfl
    have f1 := hg 1 _ rfl
    match ys, hlen with
    | [y0, y1], _ =>
      change DataW.trod enc Tryz.prog w 0 (fun _ => true) true n 27 (([c0, c1].drop 0).take (Tryz.prog.cellsOf 27)) = some y0 at f0
      rw [cells_nodes] at f0
      change DataW.trod enc Tryz.prog w 0 (fun _ => true) true n 28 (([c0, c1].drop 1).take (Tryz.prog.cellsOf 28)) = some y1 at f1
      rw [cells_rows] at f1
      obtain ⟨ns, h1, h2⟩ := nodes_ns (v := c0) f0
      obtain ⟨L, h3, h4⟩ := rows_rw (v := c1) f1
      refine ⟨c0, c1, (ns, L), rfl, ⟨c0, c1, rfl, h1, h3⟩, h2, ?_⟩
      obtain ⟨d, p⟩ := x
      simp only [Prod.mk.injEq] at hd
      obtain ⟨rfl, -⟩ := hd
      simp only [Rows.uptoBulk, List.map_cons, List.map_nil, Rows.uptoBulkAll]
      omega
end

end Go.Proofs.YtanhhkdoejnpiaaGreat.G
/-! Of stage 15 -/
namespace Go.Proofs.YtanhhkdoejnpiaaGreat.G
open Go.Joins Go.ChangeShapes Go.WideShapes Go.ChangeAt Go.RowKit Go.Deep Go.Shelf Go.Maps
set_option linter.unusedVariables false
set_option linter.unusedSimpArgs false

section
variable {H : Type} {enc : TypeId × Value → H} {w : World}
theorem rows_rw2 {fuel : Nat} {v : Value} {x : DataW H × List MemPlace} (h : DataW.trod enc Tryz.prog w 0 (fun _ => true) true fuel 28 [v] = some x) : ∃ L, Rw .i64 w v L ∧ L.flatten.length + L.length ≤ Rows.uptoBulk x.1 ∧ ∀ row ∈ L, ∀ h ∈ row, I64 h := by
  rcases open_int_rows Tryz.underlying28 Tryz.underlying72 Tryz.underlying3 cells_ints cells_int h with ⟨h0, rfl⟩ | ⟨a, l, c, A, Ln, C, Z, hcs, -, hl, hm, rfl, hr⟩
  · simp only [List.cons.injEq, and_true] at h0
    subst h0
    exact ⟨[], Rw.nil _ w, by simp [Rows.uptoBulk], fun row hr => (by cases hr)⟩
  · simp only [List.cons.injEq, and_true] at hcs
    subst hcs
    refine ⟨(List.range l).map fun r => (Z r).take (Ln r), ⟨(List.range l).map fun r => .slice (A r) (Ln r) (C r), some a, c, by simp, by simpa using hl, hm, fun q => (by cases q), fun hp => ⟨a, rfl, ?_, fun j u hj => ?_⟩, by simp, fun j u xs h1 h2 => ?_⟩, ?_, fun row hr2 y hy => ?_⟩
    · have hlp : 0 < l := by
        rcases Nat.eq_zero_or_pos l with q | q
        · subst q; exact absurd rfl hp
        · exact q
      have := lt_of_cell (hr 0 (by omega)).1
      rwa [block_of_add] at this
    · have hjl : j < l := by
        rcases Nat.lt_or_ge j l with q | q
        · exact q
        · rw [List.getElem?_eq_none (by simpa using q)] at hj; cases hj
      rw [List.getElem?_map, List.getElem?_range hjl] at hj
      cases hj
      exact (hr j (by omega)).1
    · have hjl : j < l := by
        rcases Nat.lt_or_ge j l with q | q
        · exact q
        · rw [List.getElem?_eq_none (by simpa using q)] at h1; cases h1
      simp only [List.getElem?_map, List.getElem?_range hjl, Option.map_some, Option.some.injEq] at h1 h2
      subst h1
      subst h2
      obtain ⟨h1, h2, h3, h4, h5, h6, h7⟩ := hr j (by omega)
      exact row_sl h2 h3 h4 h6 (fun a' e => (h7 a' e).2)
    · have hs := sum_bulk (H := H) (fun r => intRow .i64 (A r) (Ln r) (Z r)) (fun r => (Z r).take (Ln r)) l (fun r hrl => by
        obtain ⟨h1, h2, h3, h4, h5, h6, h7⟩ := hr r (by omega)
        rw [List.length_take]
        have := row_bulk (H := H) (k := .i64) (A := A r) (l := Ln r) (zs := Z r) (by omega) (fun q => by rw [h4]; exact h6 q)
        omega)
      simp only [List.length_map, List.length_range, Rows.uptoBulk]
      omega
    · obtain ⟨i, hi', rfl⟩ := List.mem_map.1 hr2
      obtain ⟨h1, h2, h3, h4, h5, h6, h7⟩ := hr i (by have := List.mem_range.1 hi'; omega)
      exact i64_of_wf (h5 y (List.mem_of_mem_take hy))
set_option maxRecDepth 100000 in
theorem graph_cells2 {fuel : Nat} {cs : List Value} {x : DataW H × List MemPlace} (h : DataW.trod enc Tryz.prog w 0 (fun _ => true) true fuel 30 cs = some x) : ∃ (a b : Value) (g : Gr), cs = [a, b] ∧ GrV w (.agg #[a, b]) g ∧ GrIn g (Rows.uptoBulk x.1) ∧ ∀ row ∈ g.2, ∀ h ∈ row, I64 h := by
  obtain ⟨ys, n, _, hd, hcl, hlen, hg⟩ := DataW.trod_struct Tryz.underlying30 h
  rw [cells_graph] at hcl
  match cs, hcl with
  | [c0, c1], _ =>
    have f0 := hg 0 _ rfl
    have f1 := hg 1 _ rfl
    match ys, hlen with
    | [y0, y1], _ =>
      change DataW.trod enc Tryz.prog w 0 (fun _ => true) true n 27 (([c0, c1].drop 0).take (Tryz.prog.cellsOf 27)) = some y0 at f0
      rw [cells_nodes] at f0
      change DataW.trod enc Tryz.prog w 0 (fun _ => true) true n 28 (([c0, c1].drop 1).take (Tryz.prog.cellsOf 28)) = some y1 at f1
      rw [cells_rows] at f1
      obtain ⟨ns, h1, h2⟩ := nodes_ns (v := c0) f0
      obtain ⟨L, h3, h4, h5⟩ := rows_rw2 (v := c1) f1
      refine ⟨c0, c1, (ns, L), rfl, ⟨c0, c1, rfl, h1, h3⟩, ⟨h2, ?_⟩, h5⟩
      obtain ⟨d, p⟩ := x
      simp only [Prod.mk.injEq] at hd
      obtain ⟨rfl, -⟩ := hd
      simp only [Rows.uptoBulk, List.map_cons, List.map_nil, Rows.uptoBulkAll]
      omega
end

end Go.Proofs.YtanhhkdoejnpiaaGreat.G
/-! Of stage 15 -/
namespace Go.Proofs.YtanhhkdoejnpiaaGreat.G
open Go.Joins Go.ChangeShapes Go.WideShapes Go.ChangeAt Go.RowKit Go.Deep Go.Shelf Go.Maps
set_option linter.unusedVariables false
set_option linter.unusedSimpArgs false

theorem rgB_of {g : Gr} (h : Rg g) : rgB g = true := by
  unfold rgB
  rw [Bool.and_eq_true, List.all_eq_true, List.all_eq_true]
  refine ⟨fun n hm => ?_, fun row hr => ?_⟩
  · unfold ndB
    obtain ⟨h1, h2⟩ := h.hd n hm
    rw [Bool.and_eq_true, Bool.and_eq_true, decide_eq_true_eq, List.all_eq_true]
    refine ⟨h1, h2, fun i hi => decide_eq_true ?_⟩
    have hl := ptk_lt hi
    exact h.pt n hm i (by omega) (List.mem_filter.1 hi).2
  · unfold rowB
    rw [List.all_eq_true]
    intro x hx
    obtain ⟨h1, h2⟩ := h.hn row hr x hx
    rw [decide_eq_true h1, decide_eq_true h2]
    rfl

end Go.Proofs.YtanhhkdoejnpiaaGreat.G
