/- The document's answers for memory (dovecoteref03): contract of Store. -/
import Derived.Test.YtjolikgficknnaaAr4
import Derived.OwnWalk
namespace Go.Proofs.Ytjolikgficknnaa
open Go.ChangeShapes Go.WideShapes Go.ChangeAt Go.RowKit
set_option linter.unusedVariables false
set_option linter.unusedSimpArgs false

/-- A row that a call has made by append: its block, its words. -/
theorem own_blk {w : World} {base : Nat} {e : TypeId} {v : Value} {n : Nat} {xs : List Int} (h : w.ownsRow base e 1 v n (wds xs)) (hn : 0 < n) :
    ∃ g cap cur, v = .slice (some ⟨g, 0, none⟩) n cap ∧ base ≤ g ∧ Blk w g e cur ∧ n ≤ cap ∧ cap ≤ maxLen ∧ n ≤ cur.size ∧ cur.toList.take n = wds xs := by
  rcases h.2 with ⟨_, h0⟩ | ⟨g, cap, cur, hv, hb, hg, hc, hm, hs, ht⟩
  · omega
  · exact ⟨g, cap, cur, hv, hb, hg, hc, hm, by omega, by simpa using ht⟩
theorem row_of_take {w : World} {g : Nat} {t : TypeId} {cur : Array Value} {xs : List Int} {n : Nat} (h : Blk w g t cur) (ht : cur.toList.take n = wds xs) : Row w ⟨g, 0, none⟩ xs := by
  refine ⟨h.lt, fun j x hx => ?_⟩
  rw [add_zero', h.cell j]
  have e : (cur.toList.take n)[j]? = some (wd x) := by rw [ht]; simp [wds, hx]
  rw [List.getElem?_take] at e
  split at e
  · simpa [wd] using e
  · cases e
theorem take_set {cur : Array Value} {xs : List Int} {n k : Nat} {v : Int} (ht : cur.toList.take n = wds xs) (hk : k < n) : (cur.setIfInBounds k (.int .u64 v)).toList.take n = wds (xs.set k v) := by
  rw [Array.toList_setIfInBounds, List.take_set, ht]
  simp [wds, List.map_set, wd]

theorem Me.sp_put (m : Me) {s : Int} (hs : s = 0 ∨ s = 1) (l : List Int) : (m.put s l).sp s = l := by rcases hs with rfl | rfl <;> rfl
theorem Me.put_put (m : Me) {s : Int} (hs : s = 0 ∨ s = 1) (l l' : List Int) : (m.put s l).put s l' = m.put s l' := by rcases hs with rfl | rfl <;> rfl
theorem Me.put_n (m : Me) (s : Int) (l : List Int) : (m.put s l).n = m.n := by unfold Me.put; split <;> rfl
end Go.Proofs.Ytjolikgficknnaa
