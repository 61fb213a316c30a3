/- What is moved and cleared in memory (package arena): contracts of Move and Clear. -/
import Derived.Test.YtgcpkgogjcgfbaaAr4
namespace Go.Proofs.Ytgcpkgogjcgfbaa
open Go.ChangeShapes Go.WideShapes Go.ChangeAt Go.RowKit
set_option linter.unusedVariables false
set_option linter.unusedSimpArgs false

theorem add_of_add (a : Addr) (i j : Nat) : (a.add i).add j = a.add (i + j) := by
  unfold Addr.add
  by_cases hi : i = 0 <;> by_cases hj : j = 0 <;> simp [hi, hj, Nat.add_assoc]
theorem Row.sub {w : World} {p : Addr} {xs : List Int} (h : Row w p xs) (i n : Nat) : Row w (p.add i) ((xs.drop i).take n) := by
  refine ⟨by rw [block_of_add]; exact h.1, fun j x hx => ?_⟩
  rw [add_of_add]
  rw [List.getElem?_take] at hx
  split at hx
  · rw [List.getElem?_drop] at hx
    exact h.2 _ x hx
  · cases hx
theorem new_row (W : World) (xs : List Int) (t : TypeId) (g : Nat) (hg : g = W.heap.size) : Row (W.alloc (.cells (wds xs).toArray t)).drew ⟨g, 0, none⟩ xs := by
  subst hg
  exact row_of_blk (heap_alloc_new W _)
theorem len_zers (n : Nat) : (zers n).length = n := by simp [zers]

theorem lay_len (m : Me) (s : Int) (ws : List Int) (l k : Nat) (kk : Int) (P Q R : Addr) (c d cw : Nat) (w : World) (hl : ws.length = l) (hkk : kk = k) (hm : Sits w m P Q c d) (hs : s = 0 ∨ s = 1) (hR : Row w R ws) (hk : k < m.n) (hw : k + l ≤ m.n) :
    Calls Try.prog 95 #[.agg #[.int .i64 m.n, .slice (some P) m.n c, .slice (some Q) m.n d], .agg #[.int .i64 s, .int .i64 kk], .slice (some R) l cw] w (GivesF w (m.put s (splice (m.sp s) k ws))) := by
  subst hl hkk
  exact lay_any m s ws k P Q R c d cw w hm hs hR hk hw

end Go.Proofs.Ytgcpkgogjcgfbaa
