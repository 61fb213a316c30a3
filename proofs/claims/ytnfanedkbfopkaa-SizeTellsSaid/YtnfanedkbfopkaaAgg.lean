/- A struct of whole numbers that is handed over by value is its numbers: how it is read before a call, and how it reads behind it. -/
import Derived.Test.YtnfanedkbfopkaaSzW
import Derived.Lib.SmallJoins
namespace Go.Proofs.Ytnfanedkbfopkaa
open Go.Joins Go.ChangeShapes Go.WideShapes Go.ChangeAt Go.RowKit Go.Deep
section
variable {H : Type} {enc : TypeId × Value → H} {P : Program} {w : World} {base : Nat} {spare : Nat → Bool} {held : Bool}

theorem open_n4 {r : Reach} {b0 : Nat} {t : TypeId} {f0 f1 f2 f3 : Field} {k0 k1 k2 k3 : IntKind} {v : Value} {d : DataW H} {p : List MemPlace}
    (hs : P.underlying t = some (.struct #[f0, f1, f2, f3])) (hone : oneCellFields P #[f0, f1, f2, f3] = true) (hC : P.cellsOf t = 4)
    (u0 : P.underlying f0.type = some (.int k0)) (u1 : P.underlying f1.type = some (.int k1)) (u2 : P.underlying f2.type = some (.int k2)) (u3 : P.underlying f3.type = some (.int k3))
    (hv : Value.okWide P w r b0 t v) (h : DataW.Trod enc P w base spare held t v d p) :
    ∃ n0 n1 n2 n3 : Int, v = .agg #[.int k0 n0, .int k1 n1, .int k2 n2, .int k3 n3] ∧ d = .agg [.lit (.int k0 n0), .lit (.int k1 n1), .lit (.int k2 n2), .lit (.int k3 n3)] ∧ p = [] ∧
      (Lit.int k0 n0).wf = true ∧ (Lit.int k1 n1).wf = true ∧ (Lit.int k2 n2).wf = true ∧ (Lit.int k3 n3).wf = true := by
  obtain ⟨v0, v1, v2, v3, y0, y1, y2, y3, n, rfl, rfl, rfl, h0, h1, h2, h3⟩ := open_agg4 hs hone hC hv h
  obtain ⟨n0, e0, rfl, w0⟩ := DataW.trod_int u0 h0
  obtain ⟨n1, e1, rfl, w1⟩ := DataW.trod_int u1 h1
  obtain ⟨n2, e2, rfl, w2⟩ := DataW.trod_int u2 h2
  obtain ⟨n3, e3, rfl, w3⟩ := DataW.trod_int u3 h3
  cases e0; cases e1; cases e2; cases e3
  exact ⟨n0, n1, n2, n3, rfl, rfl, rfl, w0, w1, w2, w3⟩

theorem shut_n4 {t : TypeId} {f0 f1 f2 f3 : Field} {k0 k1 k2 k3 : IntKind} {n0 n1 n2 n3 : Int}
    (hs : P.underlying t = some (.struct #[f0, f1, f2, f3])) (hone : oneCellFields P #[f0, f1, f2, f3] = true) (hC : P.cellsOf t = 4)
    (u0 : P.underlying f0.type = some (.int k0)) (u1 : P.underlying f1.type = some (.int k1)) (u2 : P.underlying f2.type = some (.int k2)) (u3 : P.underlying f3.type = some (.int k3))
    (w0 : (Lit.int k0 n0).wf = true) (w1 : (Lit.int k1 n1).wf = true) (w2 : (Lit.int k2 n2).wf = true) (w3 : (Lit.int k3 n3).wf = true) :
    DataW.Trod enc P w base spare held t (.agg #[.int k0 n0, .int k1 n1, .int k2 n2, .int k3 n3]) (.agg [.lit (.int k0 n0), .lit (.int k1 n1), .lit (.int k2 n2), .lit (.int k3 n3)]) [] :=
  shut_agg4 (y0 := (.lit (.int k0 n0), [])) (y1 := (.lit (.int k1 n1), [])) (y2 := (.lit (.int k2 n2), [])) (y3 := (.lit (.int k3 n3), [])) hs hone hC
    ⟨1, trod_int_mk 0 u0 w0⟩ ⟨1, trod_int_mk 0 u1 w1⟩ ⟨1, trod_int_mk 0 u2 w2⟩ ⟨1, trod_int_mk 0 u3 w3⟩

theorem list5 {l : List Value} (h : l.length = 5) : ∃ a b c d e, l = [a, b, c, d, e] := by
  match l, h with
  | [a, b, c, d, e], _ => exact ⟨a, b, c, d, e, rfl⟩

theorem open_n5 {r : Reach} {b0 : Nat} {t : TypeId} {f0 f1 f2 f3 f4 : Field} {k0 k1 k2 k3 k4 : IntKind} {v : Value} {d : DataW H} {p : List MemPlace}
    (hs : P.underlying t = some (.struct #[f0, f1, f2, f3, f4])) (hone : oneCellFields P #[f0, f1, f2, f3, f4] = true) (hC : P.cellsOf t = 5)
    (u0 : P.underlying f0.type = some (.int k0)) (u1 : P.underlying f1.type = some (.int k1)) (u2 : P.underlying f2.type = some (.int k2)) (u3 : P.underlying f3.type = some (.int k3)) (u4 : P.underlying f4.type = some (.int k4))
    (hv : Value.okWide P w r b0 t v) (h : DataW.Trod enc P w base spare held t v d p) :
    ∃ n0 n1 n2 n3 n4 : Int, v = .agg #[.int k0 n0, .int k1 n1, .int k2 n2, .int k3 n3, .int k4 n4] ∧
      d = .agg [.lit (.int k0 n0), .lit (.int k1 n1), .lit (.int k2 n2), .lit (.int k3 n3), .lit (.int k4 n4)] ∧ p = [] ∧
      (Lit.int k0 n0).wf = true ∧ (Lit.int k1 n1).wf = true ∧ (Lit.int k2 n2).wf = true ∧ (Lit.int k3 n3).wf = true ∧ (Lit.int k4 n4).wf = true := by
  obtain ⟨⟨l⟩, rfl, hsz⟩ := okWide_struct hs hv
  obtain ⟨c0, c1, c2, c3, c4, rfl⟩ := list5 (hsz.trans hC)
  obtain ⟨fuel, hf⟩ := h
  obtain ⟨xs, n, _, hx, _, hlen, hg⟩ := DataW.trod_struct hs hf
  have g0 := hg 0 f0 rfl
  have g1 := hg 1 f1 rfl
  have g2 := hg 2 f2 rfl
  have g3 := hg 3 f3 rfl
  have g4 := hg 4 f4 rfl
  rw [(hone_of hone 0 f0 rfl).1, (hone_of hone 0 f0 rfl).2] at g0
  rw [(hone_of hone 1 f1 rfl).1, (hone_of hone 1 f1 rfl).2] at g1
  rw [(hone_of hone 2 f2 rfl).1, (hone_of hone 2 f2 rfl).2] at g2
  rw [(hone_of hone 3 f3 rfl).1, (hone_of hone 3 f3 rfl).2] at g3
  rw [(hone_of hone 4 f4 rfl).1, (hone_of hone 4 f4 rfl).2] at g4
  match xs, hlen with
  | [y0, y1, y2, y3, y4], _ =>
    obtain ⟨n0, e0, rfl, w0⟩ := DataW.trod_int u0 g0
    obtain ⟨n1, e1, rfl, w1⟩ := DataW.trod_int u1 g1
    obtain ⟨n2, e2, rfl, w2⟩ := DataW.trod_int u2 g2
    obtain ⟨n3, e3, rfl, w3⟩ := DataW.trod_int u3 g3
    obtain ⟨n4, e4, rfl, w4⟩ := DataW.trod_int u4 g4
    simp [Value.cells] at e0 e1 e2 e3 e4
    subst e0 e1 e2 e3 e4
    simp only [Prod.mk.injEq] at hx
    exact ⟨n0, n1, n2, n3, n4, rfl, by simpa using hx.1, by simpa using hx.2, w0, w1, w2, w3, w4⟩

theorem shut_n5 {t : TypeId} {f0 f1 f2 f3 f4 : Field} {k0 k1 k2 k3 k4 : IntKind} {n0 n1 n2 n3 n4 : Int}
    (hs : P.underlying t = some (.struct #[f0, f1, f2, f3, f4])) (hone : oneCellFields P #[f0, f1, f2, f3, f4] = true) (hC : P.cellsOf t = 5)
    (u0 : P.underlying f0.type = some (.int k0)) (u1 : P.underlying f1.type = some (.int k1)) (u2 : P.underlying f2.type = some (.int k2)) (u3 : P.underlying f3.type = some (.int k3)) (u4 : P.underlying f4.type = some (.int k4))
    (w0 : (Lit.int k0 n0).wf = true) (w1 : (Lit.int k1 n1).wf = true) (w2 : (Lit.int k2 n2).wf = true) (w3 : (Lit.int k3 n3).wf = true) (w4 : (Lit.int k4 n4).wf = true) :
    DataW.Trod enc P w base spare held t (.agg #[.int k0 n0, .int k1 n1, .int k2 n2, .int k3 n3, .int k4 n4]) (.agg [.lit (.int k0 n0), .lit (.int k1 n1), .lit (.int k2 n2), .lit (.int k3 n3), .lit (.int k4 n4)]) [] := by
  have h0 := hone_of hone 0 f0 rfl
  have h1 := hone_of hone 1 f1 rfl
  have h2 := hone_of hone 2 f2 rfl
  have h3 := hone_of hone 3 f3 rfl
  have h4 := hone_of hone 4 f4 rfl
  have := trod_struct_mk (enc := enc) (w := w) (base := base) (spare := spare) (held := held) (n := 1) (cs := [.int k0 n0, .int k1 n1, .int k2 n2, .int k3 n3, .int k4 n4])
    (xs := [(.lit (.int k0 n0), []), (.lit (.int k1 n1), []), (.lit (.int k2 n2), []), (.lit (.int k3 n3), []), (.lit (.int k4 n4), [])]) hs (by simp [hC])
    (by simp [h0, h1, h2, h3, h4, trod_int_mk 0 u0 w0, trod_int_mk 0 u1 w1, trod_int_mk 0 u2 w2, trod_int_mk 0 u3 w3, trod_int_mk 0 u4 w4])
  exact ⟨2, by simpa [Value.cells] using this⟩
end
end Go.Proofs.Ytnfanedkbfopkaa
