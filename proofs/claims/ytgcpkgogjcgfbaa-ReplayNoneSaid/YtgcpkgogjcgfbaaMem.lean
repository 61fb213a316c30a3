/- Memory as plain lists of words: what is loaded, stored, moved and cleared, said without the program; and when a value of the program is such memory in a world. -/
import Derived.Test.YtgcpkgogjcgfbaaSiz
import Derived.Laws.CopyOwn
import Derived.Laws.OwnMore
import Derived.Deep.AppendLies
namespace Go.Proofs.Ytgcpkgogjcgfbaa
open Go.ChangeShapes Go.WideShapes Go.ChangeAt Go.RowKit
set_option linter.unusedVariables false

/-- An address, as whole numbers of the machine. -/
def U64 (a : Int) : Prop := 0 ≤ a ∧ a ≤ 18446744073709551615
/-- The address leads to place p of space s. -/
def Leads (a s p : Int) : Prop := (s = 0 ∨ s = 1) ∧ 0 ≤ p ∧ p < 4294967296 ∧ a = (s + 1) * 4294967296 + p
theorem leads_or (a : Int) (h : U64 a) : (∃ s p, Leads a s p) ∨ whb a = false := by
  by_cases k : a / 4294967296 - 1 = 0 ∨ a / 4294967296 - 1 = 1
  · left
    refine ⟨a / 4294967296 - 1, a % 4294967296, k, by omega, by omega, by omega⟩
  · exact .inr (decide_eq_false k)
theorem Leads.is {a s p : Int} (h : Leads a s p) : whs a = s ∧ whp a = p ∧ whb a = true := by
  obtain ⟨h0, h1, h2, h3⟩ := h
  have e : a / 4294967296 - 1 = s := by omega
  refine ⟨?_, ?_, ?_⟩
  · unfold whs; rw [e]; rcases h0 with rfl | rfl <;> simp
  · unfold whp; rw [e, if_pos h0]; omega
  · unfold whb; rw [e]; exact decide_eq_true h0

theorem where_yes (a s p : Int) (ha : U64 a) (h : Leads a s p) (w : World) :
    Calls Try.prog 64 #[.int .u64 a] w fun e w' => e = .returned (.tuple #[.int .i64 s, .int .i64 p, .bool true]) ∧ Up w w' := by
  obtain ⟨e1, e2, e3⟩ := h.is
  have := where_any a ha.1 ha.2 w
  rw [e1, e2, e3] at this
  exact this
theorem not_where {a : Int} (h : whb a = false) : whs a = 0 ∧ whp a = 0 := by
  have h := of_decide_eq_false h
  exact ⟨if_neg (fun k => h (.inr k)), if_neg h⟩
theorem where_not (a : Int) (ha : U64 a) (h : whb a = false) (w : World) :
    Calls Try.prog 64 #[.int .u64 a] w fun e w' => e = .returned (.tuple #[.int .i64 0, .int .i64 0, .bool false]) ∧ Up w w' := by
  obtain ⟨e1, e2⟩ := not_where h
  have := where_any a ha.1 ha.2 w
  rw [e1, e2, h] at this
  exact this
theorem rwhere_yes (a s p : Int) (ha : U64 a) (h : Leads a s p) (w : World) :
    Calls Try.prog 30 #[.int .u64 a] w fun e w' => e = .returned (.tuple #[.int .i64 s, .int .i64 p, .bool true]) ∧ w = w' := by
  obtain ⟨e1, e2, e3⟩ := h.is
  have := rwhere a ha.1 ha.2 w
  rw [e1, e2, e3] at this
  exact this
theorem rwhere_not (a : Int) (ha : U64 a) (h : whb a = false) (w : World) :
    Calls Try.prog 30 #[.int .u64 a] w fun e w' => e = .returned (.tuple #[.int .i64 0, .int .i64 0, .bool false]) ∧ w = w' := by
  obtain ⟨e1, e2⟩ := not_where h
  have := rwhere a ha.1 ha.2 w
  rw [e1, e2, h] at this
  exact this

/-- Memory: how many words, and those of both spaces. -/
structure Me where
  n : Nat
  xs : List Int
  ys : List Int
/-- Memory is right. -/
def Me.ok (m : Me) : Prop := 16 ≤ m.n ∧ m.n ≤ 4096 ∧ m.xs.length = m.n ∧ m.ys.length = m.n
def Me.sp (m : Me) (s : Int) : List Int := if s = 1 then m.ys else m.xs
def Me.put (m : Me) (s : Int) (l : List Int) : Me := if s = 1 then { m with ys := l } else { m with xs := l }
/-- The address is there. -/
def Me.there (m : Me) (a : Int) : Prop := whb a = true ∧ whp a < m.n
instance decThere (m : Me) (a : Int) : Decidable (m.there a) := by unfold Me.there; infer_instance
def Me.ld (m : Me) (a : Int) : Int := if m.there a then (m.sp (whs a)).getD (whp a).toNat 0 else 0
def Me.lde (m : Me) (a : Int) : Int := if m.there a then 0 else 2
def Me.st (m : Me) (a v : Int) : Me := if m.there a then m.put (whs a) ((m.sp (whs a)).set (whp a).toNat v) else m

/-- A row of words lies at an address. -/
def Row (w : World) (p : Addr) (xs : List Int) : Prop := p.block < w.heap.size ∧ ∀ j x, xs[j]? = some x → w.cell? (p.add j) = some (.int .u64 x)
theorem block_of_add (a : Addr) (n : Nat) : (a.add n).block = a.block := by unfold Addr.add; split <;> rfl
theorem Row.up {w w' : World} {p : Addr} {xs : List Int} (h : Row w p xs) (k : Up w w') : Row w' p xs :=
  ⟨Nat.lt_of_lt_of_le h.1 k.size, fun j x hx => (Below.cell k (by rw [block_of_add]; exact h.1)).trans (h.2 j x hx)⟩
theorem Row.at_ {w : World} {p : Addr} {xs : List Int} (h : Row w p xs) (j : Nat) (hj : j < xs.length) : w.cell? (p.add j) = some (.int .u64 (xs.getD j 0)) := by
  rw [h.2 j xs[j] (List.getElem?_eq_getElem hj)]
  simp [List.getD, List.getElem?_eq_getElem hj]

/-- Memory lies at two addresses. -/
def Sits (w : World) (m : Me) (p q : Addr) (c d : Nat) : Prop := m.ok ∧ m.n ≤ c ∧ c ≤ maxLen ∧ m.n ≤ d ∧ d ≤ maxLen ∧ Row w p m.xs ∧ Row w q m.ys
theorem Sits.up {w w' : World} {m : Me} {p q : Addr} {c d : Nat} (h : Sits w m p q c d) (k : Up w w') : Sits w' m p q c d :=
  ⟨h.1, h.2.1, h.2.2.1, h.2.2.2.1, h.2.2.2.2.1, h.2.2.2.2.2.1.up k, h.2.2.2.2.2.2.up k⟩
/-- All old cells and marks read as before. -/
theorem bcell {W w1 : World} (hb : Up W w1) : (∀ b o, b < W.heap.size → w1.cell? ⟨b, o, none⟩ = W.cell? ⟨b, o, none⟩) ∧ (∀ b o, b < W.heap.size → w1.frozen? ⟨b, o, none⟩ = W.frozen? ⟨b, o, none⟩) :=
  ⟨fun b o h => Below.cell hb (p := ⟨b, o, none⟩) h, fun b o h => Below.frozen hb (p := ⟨b, o, none⟩) h⟩
theorem Up.lt {a b : World} (h : Up a b) {k : Nat} (hk : k < a.heap.size) : k < b.heap.size := Nat.lt_of_lt_of_le hk h.size
end Go.Proofs.Ytgcpkgogjcgfbaa
