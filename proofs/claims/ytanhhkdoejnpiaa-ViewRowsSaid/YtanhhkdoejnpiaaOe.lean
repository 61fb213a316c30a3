/- A graph that is handed in, opened: its rows are no longer than memory bears. -/
import Derived.Test.YtanhhkdoejnpiaaOb
import Derived.Test.YtanhhkdoejnpiaaGj
namespace Go.Proofs.Ytanhhkdoejnpiaa.G
open Go.Joins Go.ChangeShapes Go.WideShapes Go.ChangeAt Go.RowKit Go.Deep Go.Shelf Go.Maps
set_option linter.unusedVariables false
set_option linter.unusedSimpArgs false

theorem bytes_int : Try.prog.bytesOf 3 = 8 := by kernel_rfl
theorem row_lightI {H : Type} {A : Option Addr} {l : Nat} {zs : List Int} (hA : A = none → zs.length = 0) (h : K.Light (H := H) 43 (intRow .i64 A l zs)) : zs.length ≤ 17592186044416 := by
  cases A with
  | none => have := hA rfl; omega
  | some a =>
    have := h ((zs.take l).length * 8 + (zs.drop l).length * 8) (by
      unfold intRow DataW.weights
      rw [Try.underlying43]
      simp only [List.mem_cons, bytes_int]
      left
      unfold lits
      rw [List.length_map, List.length_map]
      omega)
    rw [List.length_take, List.length_drop] at this
    unfold reachBytes at this
    omega
section
variable {H : Type} {enc : TypeId × Value → H} {w : World}
theorem rows_rwL {fuel : Nat} {v : Value} {x : DataW H × List MemPlace} (h : DataW.trod enc Try.prog w 0 (fun _ => true) true fuel 35 [v] = some x) : ∃ L, Rw .i64 w v L ∧ (K.Light 35 x.1 → ∀ row ∈ L, row.length ≤ 17592186044416) := by
  rcases open_int_rows Try.underlying35 Try.underlying43 Try.underlying3 cells_ints cells_int h with ⟨h0, rfl⟩ | ⟨a, l, c, A, Ln, C, Z, hcs, -, hl, hm, rfl, hr⟩
  · simp only [List.cons.injEq, and_true] at h0
    subst h0
    exact ⟨[], Rw.nil _ w, fun _ row hr => (by cases hr)⟩
  · simp only [List.cons.injEq, and_true] at hcs
    subst hcs
    refine ⟨(List.range l).map fun r => (Z r).take (Ln r), ⟨(List.range l).map fun r => .slice (A r) (Ln r) (C r), some a, c, by simp, by simpa using hl, hm, fun q => (by cases q), fun hp => ⟨a, rfl, ?_, fun j u hj => ?_⟩, by simp, fun j u xs h1 h2 => ?_⟩, fun hL row hr2 => ?_⟩
    · have hlp : 0 < l := by
        rcases Nat.eq_zero_or_pos l with q | q
        · subst q; exact absurd rfl hp
        · exact q
      have := lt_of_cell (hr 0 (by omega)).1
      rwa [block_of_add] at this
    · have hjl : j < l := by
        rcases Nat.lt_or_ge j l with q | q
        · exact q
        · rw [List.getElem?_eq_none (by simpa using q)] at hj; cases hj
      rw [List.getElem?_map, List.getElem?_range hjl] at hj
      cases hj
      exact (hr j (by omega)).1
    · have hjl : j < l := by
        rcases Nat.lt_or_ge j l with q | q
        · exact q
        · rw [List.getElem?_eq_none (by simpa using q)] at h1; cases h1
      simp only [List.getElem?_map, List.getElem?_range hjl, Option.map_some, Option.some.injEq] at h1 h2
      subst h1
      subst h2
      obtain ⟨h1, h2, h3, h4, h5, h6, h7⟩ := hr j (by omega)
      exact row_sl h2 h3 h4 h6 (fun a' e => (h7 a' e).2)
    · obtain ⟨i, hi', rfl⟩ := List.mem_map.1 hr2
      obtain ⟨h1, h2, h3, h4, h5, h6, h7⟩ := hr i (by have := List.mem_range.1 hi'; omega)
      have := row_lightI (H := H) (A := A i) (l := Ln i) (zs := Z i) (fun q => by rw [h4]; exact h6 q) (fun n hn => hL n (by
        unfold DataW.weights
        rw [Try.underlying35]
        simp only [List.mem_cons, List.mem_append]
        exact .inr (.inl (K.weights_in (List.mem_map.2 ⟨i, hi', rfl⟩) n hn))))
      rw [List.length_take]
      omega
set_option maxRecDepth 100000 in
theorem graph_cellsL {fuel : Nat} {cs : List Value} {x : DataW H × List MemPlace} (h : DataW.trod enc Try.prog w 0 (fun _ => true) true fuel 37 cs = some x) : ∃ (a b : Value) (g : Gr), cs = [a, b] ∧ GrV w (.agg #[a, b]) g ∧ (∀ n ∈ g.1, NdOk n) ∧ (K.Light 37 x.1 → ∀ row ∈ g.2, row.length ≤ 17592186044416) := by
  obtain ⟨ys, n, _, hd, hcl, hlen, hg⟩ := DataW.trod_struct Try.underlying37 h
  rw [cells_graph] at hcl
  match cs, hcl with
  | [c0, c1], _ =>
    have f0 := hg 0 _ rfl
    have f1 := hg 1 _ rfl
    match ys, hlen with
    | [y0, y1], _ =>
      change DataW.trod enc Try.prog w 0 (fun _ => true) true n 34 (([c0, c1].drop 0).take (Try.prog.cellsOf 34)) = some y0 at f0
      rw [cells_nodes] at f0
      change DataW.trod enc Try.prog w 0 (fun _ => true) true n 35 (([c0, c1].drop 1).take (Try.prog.cellsOf 35)) = some y1 at f1
      rw [cells_rows] at f1
      obtain ⟨ns, h1, h2⟩ := nodes_ns (v := c0) f0
      obtain ⟨L, h3, h4⟩ := rows_rwL (v := c1) f1
      refine ⟨c0, c1, (ns, L), rfl, ⟨c0, c1, rfl, h1, h3⟩, h2, fun hl => h4 (fun m hm => hl m ?_)⟩
      obtain ⟨d, p⟩ := x
      simp only [Prod.mk.injEq] at hd
      obtain ⟨rfl, -⟩ := hd
      unfold DataW.weights
      rw [Try.underlying37]
      simp only [List.map_cons, DataW.weightsEach, List.mem_append]
      exact .inr (.inl hm)
end
theorem mem_ptl {n : Nd} {i : Nat} (h : i < n.1.2.1.toNat) (k : isP n i = true) : i ∈ ptl n := List.mem_filter.2 ⟨List.mem_range.2 h, k⟩
theorem rg_ofL {g : Gr} (h : rgB g = true) (hi : ∀ n ∈ g.1, NdOk n) : Rg g := by
  unfold rgB at h
  rw [Bool.and_eq_true, List.all_eq_true, List.all_eq_true] at h
  obtain ⟨h1, h2⟩ := h
  have hn : ∀ n ∈ g.1, okHd n.1 = true ∧ (n.2.length : Int) = n.1.2.1 ∧ ∀ i ∈ ptl n, n.2.getD i 0 ≤ (g.1.length : Int) := fun n hm => by
    have := h1 n hm
    unfold ndB at this
    rw [Bool.and_eq_true, Bool.and_eq_true, decide_eq_true_eq, List.all_eq_true] at this
    exact ⟨this.1, this.2.1, fun i hi => of_decide_eq_true (this.2.2 i hi)⟩
  refine ⟨fun n hm => ⟨(hn n hm).1, (hn n hm).2.1⟩, fun n hm => (hi n hm).1, fun n hm => (hi n hm).2, fun n hm i hil hp => (hn n hm).2.2 i (mem_ptl (by have := (hn n hm).2.1; omega) hp), fun row hr hh hm => ?_⟩
  have := h2 row hr
  unfold rowB at this
  have := List.all_eq_true.1 this hh hm
  rw [Bool.and_eq_true, decide_eq_true_eq, decide_eq_true_eq] at this
  exact this
/-- A graph that ViewRows goes on with. -/
structure Sr (g : Gr) : Prop where
  rg : Rg g
  n : g.1.length ≤ 40
  s : g.2.length ≤ 20
  r : ∀ row ∈ g.2, row.length ≤ 17592186044416
theorem small_ofL {g : Gr} (h : smallb g = true) (hi : ∀ n ∈ g.1, NdOk n) (hr : ∀ row ∈ g.2, row.length ≤ 17592186044416) : Sr g := by
  unfold smallb at h
  rw [Bool.and_eq_true, Bool.and_eq_true, decide_eq_true_eq, decide_eq_true_eq] at h
  exact ⟨rg_ofL h.1 hi, h.2.1, h.2.2, hr⟩
def PtY (g : Gr) (W n : Nat) (s : Int) (w : World) (e : Ending) (w' : World) : Prop :=
  ∃ P Q c d B k, e = .returned (.tuple #[mev W P Q c d, .slice B n k, .int .i64 0]) ∧ Sits w' (putG g W s) P Q c d ∧ (putG g W s).wf ∧ Rw .u64 w' (.slice B n k) (putR g s) ∧ Up w w'
theorem putr_yes {g : Gr} {W n : Nat} {s : Int} (hg : Sr g) (hp : pte g W s = 0) (hn : g.2.length = n) (V : World) (u : Value) (hu : GrV V u g) : Calls Try.prog 12 #[u, .int .i64 W, .int .i64 s] V (PtY g W n s V) := by
  subst hn
  have h0 := pte_0 hp
  refine (mput16_any u g W s V hu hg.rg ⟨by have := hg.s; omega, hg.r⟩ (by have := hg.n; omega) (by unfold I64; omega)).mono fun e w' h => ?_
  unfold Put16 at h
  rw [if_pos hp] at h
  exact h
theorem putr_no {g : Gr} {W s x : Int} (hg : Sr g) (hW : I64 W) (hp : pte g W s = x) (hx : x ≠ 0) (V : World) (u : Value) (hu : GrV V u g) : Calls Try.prog 12 #[u, .int .i64 W, .int .i64 s] V (PutNo x V) := by
  refine (mput16_any u g W s V hu hg.rg ⟨by have := hg.s; omega, hg.r⟩ (by have := hg.n; omega) hW).mono fun e w' h => ?_
  unfold Put16 at h
  rw [hp, if_neg hx] at h
  exact h
/-- Why nothing is put, where there are few words. -/
theorem pte_no {g : Gr} {W s : Int} (hW : W ≤ 400) (hp : pte g W s ≠ 0) : W < 16 ∨ (16 ≤ W ∧ s ≠ 0 ∧ s ≠ 1) ∨ (16 ≤ W ∧ (s = 0 ∨ s = 1) ∧ W < tot g.1) := by
  by_cases h1 : W < 16
  · exact .inl h1
  · by_cases h2 : s ≠ 0 ∧ s ≠ 1
    · exact .inr (.inl ⟨by omega, h2⟩)
    · refine .inr (.inr ⟨by omega, by omega, Classical.byContradiction fun h3 => hp ?_⟩)
      unfold pte
      have hb : bnd W = 0 := by
        unfold bnd
        rw [if_neg (by omega), if_neg (by omega)]
      rw [if_neg (by rw [hb]; simp), if_neg h2, if_neg h3]
end Go.Proofs.Ytanhhkdoejnpiaa.G
