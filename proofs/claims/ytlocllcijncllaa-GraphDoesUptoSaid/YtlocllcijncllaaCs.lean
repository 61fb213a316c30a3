/- Depth first, step by step: a node's pointers up to a field; places stay. -/
import Derived.Test.YtlocllcijncllaaCr
namespace Go.Proofs.Ytlocllcijncllaa
open Go.Joins Go.ChangeShapes Go.WideShapes Go.ChangeAt Go.RowKit Go.Deep Go.Shelf Go.Maps
set_option linter.unusedVariables false
set_option linter.unusedSimpArgs false

/-- A node's pointers up to a field. -/
def pup (n : Nd) (i : Nat) : List Int := ((List.range i).filter fun (j : Nat) => isP n (j : Int)).map fun j => n.2.getD j 0
theorem pup_0 (n : Nd) : pup n 0 = [] := rfl
theorem pup_all (n : Nd) : pup n n.2.length = ptrs n := rfl
theorem pup_yes {n : Nd} {i : Nat} (h : isP n (i : Int) = true) : pup n (i + 1) = pup n i ++ [n.2.getD i 0] := by simp [pup, List.range_succ, h]
theorem pup_no {n : Nd} {i : Nat} (h : isP n (i : Int) = false) : pup n (i + 1) = pup n i := by simp [pup, List.range_succ, h]
theorem pup_sub {n : Nd} {i : Nat} (h : i ≤ n.2.length) : ∀ v ∈ pup n i, v ∈ ptrs n := fun v hv => by
  obtain ⟨j, hj, rfl⟩ := List.mem_map.1 hv
  obtain ⟨h1, h2⟩ := List.mem_filter.1 hj
  exact mem_ptrs (by have := List.mem_range.1 h1; omega) h2
theorem vall_app (g : Gr) (f : Nat) (a b o : List Int) : vall g f (a ++ b) o = vall g f b (vall g f a o) := by unfold vall; rw [List.foldl_append]
theorem vall_one (g : Gr) (f : Nat) (h : Int) (o : List Int) : vall g f [h] o = vis g f h o := rfl
/-- A place stays. -/
theorem pl_pre {o o' : List Int} {n : Int} (h : o <+: o') (k : n ∈ o) : pl o' n = pl o n := by
  obtain ⟨t, rfl⟩ := h
  unfold pl
  rw [if_pos k, if_pos (List.mem_append_left _ k), List.idxOf_append, if_pos k]
theorem pl_out {g : Gr} {o : List Int} {n : Int} (h : Told g o) (k : ¬ inN g n) : pl o n = 0 := by
  unfold pl
  rw [if_neg (fun q => k (h.inn n q))]
/-- What a node's pointers lead to is told: their places stay. -/
theorem mp_pre {g : Gr} {o o' : List Int} {m : Int} (ho : Told g o) (ho' : Told g o') (h : o <+: o') (k : ∀ v ∈ ptrs (ndOf g m), inN g v → v ∈ o) : mpF (pl o') (ndOf g m) = mpF (pl o) (ndOf g m) :=
  mp_eq fun i hi hp => by
    have hv := mem_ptrs hi hp
    by_cases q : inN g ((ndOf g m).2.getD i 0)
    · exact pl_pre h (k _ hv q)
    · rw [pl_out ho q, pl_out ho' q]
/-- The node's fields, mapped up to one. -/
def half (o : List Int) (n : Nd) (i : Nat) : List Int := (List.range n.2.length).map fun (j : Nat) => if isP n (j : Int) = true ∧ j < i then pl o (n.2.getD j 0) else n.2.getD j 0
theorem half_0 (o : List Int) (n : Nd) : half o n 0 = n.2 := by
  refine getD_ext (by simp [half]) fun j hj => ?_
  have hj : j < n.2.length := by simpa [half] using hj
  simp [half, List.getD, hj]
theorem half_len (o : List Int) (n : Nd) (i : Nat) : (half o n i).length = n.2.length := by simp [half]
theorem half_all (o : List Int) (n : Nd) : half o n n.2.length = (mpF (pl o) n).2 := by
  refine List.map_congr_left fun j hj => ?_
  have := List.mem_range.1 hj
  by_cases q : isP n (j : Int) = true
  · rw [if_pos ⟨q, this⟩, if_pos q]
  · rw [if_neg (fun x => q x.1), if_neg q]
theorem half_at (o : List Int) (n : Nd) (i : Nat) {j : Nat} (h : j < n.2.length) : (half o n i).getD j 0 = if isP n (j : Int) = true ∧ j < i then pl o (n.2.getD j 0) else n.2.getD j 0 := by
  simp [half, List.getD, h]
theorem half_no {o : List Int} {n : Nd} {i : Nat} (h : isP n (i : Int) = false) : half o n (i + 1) = half o n i := by
  refine List.map_congr_left fun j hj => ?_
  by_cases q : isP n (j : Int) = true ∧ j < i
  · rw [if_pos q, if_pos ⟨q.1, by omega⟩]
  · rw [if_neg q, if_neg (fun x => q ⟨x.1, by
      have : j ≠ i := fun e => by rw [e, h] at x; cases x.1
      omega⟩)]
theorem half_yes {o o' : List Int} {n : Nd} {i : Nat} (hi : i < n.2.length) (h : isP n (i : Int) = true) (hp : ∀ j, j < i → isP n (j : Int) = true → pl o' (n.2.getD j 0) = pl o (n.2.getD j 0)) : half o' n (i + 1) = (half o n i).set i (pl o' (n.2.getD i 0)) := by
  refine getD_ext (by simp [half]) fun j hj => ?_
  have hj : j < n.2.length := by simpa [half] using hj
  rw [half_at _ _ _ hj]
  by_cases e : i = j
  · subst e
    have h1 : i < (half o n i).length := by rw [half_len]; exact hj
    rw [if_pos ⟨h, by omega⟩]
    simp only [List.getD, List.getElem?_set_self h1, Option.getD_some]
  · have h2 := half_at o n i hj
    have h3 : ((half o n i).set i (pl o' (n.2.getD i 0))).getD j 0 = (half o n i).getD j 0 := by simp only [List.getD, List.getElem?_set_ne e]
    rw [h3, h2]
    by_cases q : isP n (j : Int) = true ∧ j < i
    · rw [if_pos q, if_pos ⟨q.1, by omega⟩]
      exact hp j q.2 q.1
    · rw [if_neg q, if_neg (fun x => q ⟨x.1, by omega⟩)]
end Go.Proofs.Ytlocllcijncllaa
