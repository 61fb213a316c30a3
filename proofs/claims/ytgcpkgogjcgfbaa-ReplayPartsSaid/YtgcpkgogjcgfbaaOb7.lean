/- What is put, and filled (object.Put, Fill): contracts of the closures and of the calls. -/
import Derived.Test.YtgcpkgogjcgfbaaOb6
namespace Go.Proofs.Ytgcpkgogjcgfbaa
open Go.ChangeShapes Go.WideShapes Go.ChangeAt Go.RowKit
set_option linter.unusedVariables false
set_option linter.unusedSimpArgs false

/-- All words but the first one are 0, unless it is a filler. -/
def Me.blk (m : Me) (a t l : Int) : Me := if t = 255 then m else m.zs a (l + 1).toNat
/-- What is put, and why not. -/
def Me.pok (m : Me) (a t l mp : Int) : Prop := rte t l mp = 0 ∧ m.inn a (wdn t l)
instance decPok (m : Me) (a t l mp : Int) : Decidable (m.pok a t l mp) := by unfold Me.pok; infer_instance
def Me.pute (m : Me) (a t l mp : Int) : Int := if rte t l mp = 0 then unl (decide (m.inn a (wdn t l))) 2 else rte t l mp
theorem pute_0 {m : Me} {a t l mp : Int} : m.pute a t l mp = 0 ↔ m.pok a t l mp := by
  unfold Me.pute Me.pok
  by_cases h : rte t l mp = 0
  · rw [if_pos h]
    by_cases k : m.inn a (wdn t l) <;> simp [k, h, unl]
  · rw [if_neg h]
    exact ⟨fun q => absurd q h, fun q => absurd q.1 h⟩
def Me.putm (m : Me) (a t l mp : Int) : Me := if m.pok a t l mp then (m.st a (wrd t l mp)).blk a t l else m
theorem pok_there {m : Me} {a t l mp : Int} (hmp : 0 ≤ mp) (h : m.pok a t l mp) : m.there a := ⟨h.2.1, by have := h.2.2; have := (wdn_small hmp h.1).1; omega⟩

theorem inn_n {m m' : Me} (h : m'.n = m.n) (a k : Int) : m'.inn a k ↔ m.inn a k := by unfold Me.inn; rw [h]
/-- What the row of Put comes to. -/
def PutPhi (m : Me) (a t l mp : Int) (Bo : Nat) (x : Int) (w' : World) : Prop := x = m.pute a t l mp ∧ (x = 0 → ∃ P Q c d, Box w' Bo (m.putm a t l mp) P Q c d)
/-- So many words may be filled. -/
def flb (n : Int) : Bool := decide (1 ≤ n ∧ n ≤ 65536)
def Me.fille (m : Me) (a n : Int) : Int := if flb n = true then m.pute a 255 (n - 1) 0 else 1
def Me.fillm (m : Me) (a n : Int) : Me := if flb n = true then m.putm a 255 (n - 1) 0 else m
/-- What the row of Fill comes to. -/
def FlPhi (m : Me) (a n : Int) (Bo : Nat) (x : Int) (w' : World) : Prop := x = m.fille a n ∧ ∃ P Q c d, Box w' Bo (m.fillm a n) P Q c d
end Go.Proofs.Ytgcpkgogjcgfbaa
