/- New of graphs; the document's example: contracts. -/
import Derived.Test.YtlocllcijncllaaFw
namespace Go.Proofs.Ytlocllcijncllaa
open Go.Joins Go.ChangeShapes Go.WideShapes Go.ChangeAt Go.RowKit Go.Deep Go.Shelf Go.Maps
set_option linter.unusedVariables false
set_option linter.unusedSimpArgs false

/-- How many threads. -/
def thr (t : Int) : Nat := if t < 0 then 0 else if 16 < t then 16 else t.toNat
def nullG (t : Int) : Gr := ([], List.replicate (thr t) [])
theorem null_rows {w : World} {G n : Nat} (h : Blk w G 47 (List.replicate n (Value.slice none 0 0)).toArray) (hn : n ≤ 16) : Rw .i64 w (.slice (some ⟨G, 0, none⟩) n n) (List.replicate n []) :=
  ⟨List.replicate n (.slice none 0 0), _, n, by simp, by simp, by unfold maxLen; omega, fun q => (by cases q), rv_of_blk h (fun j v hj => by rw [List.getElem?_toArray]; exact hj), by simp, fun j u xs h1 h2 => by
    rw [List.eq_of_mem_replicate (List.mem_of_getElem? h1), List.eq_of_mem_replicate (List.mem_of_getElem? h2)]
    exact Sl.nil _ w⟩
theorem new_any (t : Int) (w : World) : Calls Try.prog 15 #[.int .i64 t] w fun e w' => ∃ v, e = .returned v ∧ GrV w' v (nullG t) ∧ Up w w' := by
  have h16 : thr t ≤ 16 := by unfold thr; split <;> (try split) <;> omega
  have e : min (max t 0) 16 = ((thr t : Nat) : Int) := by unfold thr; split <;> (try split) <;> omega
  unfold nullG
  have hmk := make_int (thr t) (by omega)
  generalize thr t = n at *
  go_enter Try.func15, Try.ntmps15
  go_wp2
  refine bodyPost_ret (results_cell_row rfl _ _ w.heap.size 25 _ _ _ rfl (Blk.alloc (Blk.new w _ _) _) Try.underlying25 rfl (by kernel_rfl)) rfl ?_
  exact ⟨_, rfl, ⟨_, _, rfl, Ns.nil _, null_rows (Blk.new' _ (by simp) _ _) h16⟩, ((Up.refl w).alloc _).alloc _⟩
end Go.Proofs.Ytlocllcijncllaa
