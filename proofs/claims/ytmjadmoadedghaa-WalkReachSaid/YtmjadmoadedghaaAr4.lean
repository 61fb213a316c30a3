/- What is stored, swapped, moved and cleared in memory (package arena): contracts of Store, Swap, Move and Clear. -/
import Derived.Test.YtmjadmoadedghaaAr3
namespace Go.Proofs.Ytmjadmoadedghaa
open Go.ChangeShapes Go.WideShapes Go.ChangeAt Go.RowKit
set_option linter.unusedVariables false
set_option linter.unusedSimpArgs false

/-- Memory is handed back, and one thing more; two. -/
def Gives1 (w : World) (m : Me) (x : Value) (e : Ending) (w' : World) : Prop := ∃ P Q c d, e = .returned (.tuple #[.agg #[.int .i64 m.n, .slice (some P) m.n c, .slice (some Q) m.n d], x]) ∧ Sits w' m P Q c d ∧ Up w w'
def Gives2 (w : World) (m : Me) (x y : Value) (e : Ending) (w' : World) : Prop := ∃ P Q c d, e = .returned (.tuple #[.agg #[.int .i64 m.n, .slice (some P) m.n c, .slice (some Q) m.n d], x, y]) ∧ Sits w' m P Q c d ∧ Up w w'

theorem blk_row1 {w : World} {g : Nat} {t : TypeId} {v : Int} (h : Blk w g t #[.int .u64 v]) : Row w ⟨g, 0, none⟩ [v] := row_of_blk (xs := [v]) h

theorem splice_one (l : List Int) (k : Nat) (v : Int) (h : k < l.length) : splice l k [v] = l.set k v := by
  rw [List.set_eq_take_append_cons_drop, if_pos h]
  simp [splice]
theorem Me.len_sp {m : Me} (h : m.ok) (s : Int) : (m.sp s).length = m.n := by
  unfold Me.sp
  split
  · exact h.2.2.2
  · exact h.2.2.1

/-! ### Swap -/
/-- Is it swapped? -/
def Me.swb (m : Me) (a old : Int) : Bool := decide (m.there a ∧ m.ld a = old)
def Me.sw (m : Me) (a old new : Int) : Me := if m.there a ∧ m.ld a = old then m.st a new else m

end Go.Proofs.Ytmjadmoadedghaa
