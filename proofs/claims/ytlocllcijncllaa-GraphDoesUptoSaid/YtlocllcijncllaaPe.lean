/- Graphs that came from one that is few by some Do's; a thread's row in a graph's value. -/
import Derived.Test.YtlocllcijncllaaSh
import Derived.Test.YtlocllcijncllaaPd
namespace Go.Proofs.Ytlocllcijncllaa
open Go.Joins Go.ChangeShapes Go.WideShapes Go.ChangeAt Go.RowKit Go.Deep Go.Shelf Go.Maps
set_option linter.unusedVariables false
set_option linter.unusedSimpArgs false

structure Okk (j : Nat) (g : Gr) : Prop where
  rg : Rg g
  n : g.1.length ≤ 60 + j
  s : g.2.length ≤ 200
  b : g.2.flatten.length ≤ 1048576 + j
theorem Few.okk {g : Gr} {B : Nat} (h : Few g B) (hB : B ≤ 1048576) : Okk 0 g := ⟨h.rg, by have := h.n; omega, h.s, by have := h.b; omega⟩
theorem Okk.ok {g : Gr} {j : Nat} (h : Okk j g) (hj : j ≤ 40) : Ok g := ⟨h.rg, by have := h.n; omega, h.s, by have := h.b; omega⟩
theorem Okk.step {g : Gr} {j : Nat} (h : Okk j g) (hj : j ≤ 40) (th : Int) (o : Op) (hv : U64 o.v) (hm : U64 o.m) : Okk (j + 1) (doG g th o).1 := by
  obtain ⟨l1, l2, l3⟩ := do_len (g := g) (th := th) (o := o)
  have := h.n
  have := h.s
  have := h.b
  have := do_flat (g := g) (th := th) (o := o)
  exact ⟨do_rg h.rg (by omega) hv hm, by omega, by omega, by omega⟩
theorem GrV.row_at {w : World} {A B : Option Addr} {n c s d : Nat} {g : Gr} {j : Nat} (h : GrV w (.agg #[.slice A n c, .slice B s d]) g) (hj : j < g.2.length) : ∃ p P q, B = some p ∧ w.cell? (p.add j) = some (.slice P (rowOf g j).length q) ∧ p.block < w.heap.size ∧ Sl .i64 w (.slice P (rowOf g j).length q) (rowOf g j) := by
  obtain ⟨a, b, e, -, h2⟩ := h
  simp only [Value.agg.injEq] at e
  obtain ⟨-, rfl⟩ := Prod.mk.inj (show ((_ : Value), (_ : Value)) = (_, _) from by
    have := congrArg Array.toList e
    simp only [List.cons.injEq, and_true] at this
    exact Prod.ext this.1 this.2)
  have hs := h2.len
  obtain ⟨p, u, rfl, hc, hr⟩ := h2.at_ (x := j) (by omega)
  obtain ⟨P, q, rfl⟩ := hr.slice
  exact ⟨p, P, q, rfl, hc, by have := lt_of_cell hc; rwa [block_of_add] at this, hr⟩
theorem i64k (k : Nat) (h : k ≤ 11) : I64 (k : Int) := by unfold I64; omega
theorem u640 : U64 0 := by unfold U64; decide
end Go.Proofs.Ytlocllcijncllaa
