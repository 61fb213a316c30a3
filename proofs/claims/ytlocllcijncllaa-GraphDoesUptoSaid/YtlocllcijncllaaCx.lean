/- Rows of handles, mapped one after the other (graph.Canon's end), plainly. -/
import Derived.Test.YtlocllcijncllaaCw
namespace Go.Proofs.Ytlocllcijncllaa
open Go.Joins Go.ChangeShapes Go.WideShapes Go.ChangeAt Go.RowKit Go.Deep Go.Shelf Go.Maps
set_option linter.unusedVariables false
set_option linter.unusedSimpArgs false

/-- A row, mapped up to one. -/
def hrow (o row : List Int) (i : Nat) : List Int := (List.range row.length).map fun (b : Nat) => if b < i then pl o (row.getD b 0) else row.getD b 0
theorem hrow_len (o row : List Int) (i : Nat) : (hrow o row i).length = row.length := by simp [hrow]
theorem hrow_at (o row : List Int) (i : Nat) {b : Nat} (h : b < row.length) : (hrow o row i).getD b 0 = if b < i then pl o (row.getD b 0) else row.getD b 0 := by
  simp [hrow, List.getD, h]
theorem hrow_0 (o row : List Int) : hrow o row 0 = row := by
  refine getD_ext (by simp [hrow]) fun j hj => ?_
  have hj : j < row.length := by simpa [hrow] using hj
  rw [hrow_at _ _ _ hj, if_neg (by omega)]
theorem hrow_all (o row : List Int) {i : Nat} (h : row.length ≤ i) : hrow o row i = row.map (pl o) := by
  refine getD_ext (by simp [hrow]) fun j hj => ?_
  have hj : j < row.length := by simpa [hrow] using hj
  rw [hrow_at _ _ _ hj, if_pos (by omega)]
  simp [List.getD, hj]
theorem hrow_ext {o o' row : List Int} {i : Nat} (h : ∀ b, b < i → b < row.length → pl o' (row.getD b 0) = pl o (row.getD b 0)) : hrow o' row i = hrow o row i := by
  refine List.map_congr_left fun b hb => ?_
  have hb := List.mem_range.1 hb
  by_cases q : b < i
  · rw [if_pos q, if_pos q, h b q hb]
  · rw [if_neg q, if_neg q]
theorem hrow_step {o o' row : List Int} {i : Nat} (hi : i < row.length) (h : ∀ b, b < i → b < row.length → pl o' (row.getD b 0) = pl o (row.getD b 0)) : hrow o' row (i + 1) = (hrow o row i).set i (pl o' (row.getD i 0)) := by
  refine getD_ext (by simp [hrow]) fun j hj => ?_
  have hj : j < row.length := by simpa [hrow] using hj
  rw [hrow_at _ _ _ hj]
  by_cases e : i = j
  · subst e
    have h1 : i < (hrow o row i).length := by rw [hrow_len]; exact hj
    rw [if_pos (by omega)]
    simp only [List.getD, List.getElem?_set_self h1, Option.getD_some]
  · have h3 : ((hrow o row i).set i (pl o' (row.getD i 0))).getD j 0 = (hrow o row i).getD j 0 := by simp only [List.getD, List.getElem?_set_ne e]
    rw [h3, hrow_at _ _ _ hj]
    by_cases q : j < i
    · rw [if_pos (by omega), if_pos q, h j q hj]
    · rw [if_neg (by omega), if_neg q]
/-- How far a row is mapped. -/
def far_ (R : List (List Int)) (j i a : Nat) : Nat := if a < j then (R.getD a []).length else if a = j then i else 0
def Lx (o : List Int) (R : List (List Int)) (j i : Nat) : List (List Int) := (List.range R.length).map fun (a : Nat) => hrow o (R.getD a []) (far_ R j i a)
theorem Lx_len (o : List Int) (R : List (List Int)) (j i : Nat) : (Lx o R j i).length = R.length := by simp [Lx]
theorem Lx_at (o : List Int) (R : List (List Int)) (j i : Nat) {a : Nat} (h : a < R.length) : (Lx o R j i)[a]? = some (hrow o (R.getD a []) (far_ R j i a)) := by
  simp [Lx, h]
theorem Lx_row (o : List Int) (R : List (List Int)) {j : Nat} (i : Nat) (h : j < R.length) : (Lx o R j i)[j]? = some (hrow o (R.getD j []) i) := by
  rw [Lx_at o R j i h]
  unfold far_
  rw [if_neg (by omega), if_pos rfl]
theorem range_getD {R : List (List Int)} {f : Nat → List Int} (h : ∀ a, a < R.length → f a = R.getD a []) : (List.range R.length).map f = R := by
  apply List.ext_getElem?
  intro a
  rcases Nat.lt_or_ge a R.length with q | q
  · simp [q, h a q, List.getD]
  · rw [List.getElem?_eq_none (by simpa using q), List.getElem?_eq_none q]
theorem Lx_0 (o : List Int) (R : List (List Int)) : Lx o R 0 0 = R := range_getD fun a h => by
  have : far_ R 0 0 a = 0 := by unfold far_; rw [if_neg (by omega)]; split <;> rfl
  rw [this, hrow_0]
theorem Lx_next {o : List Int} {R : List (List Int)} {j i : Nat} (h : i = (R.getD j []).length) : Lx o R j i = Lx o R (j + 1) 0 := by
  refine List.map_congr_left fun a ha => ?_
  have : far_ R j i a = far_ R (j + 1) 0 a := by
    unfold far_
    rcases Nat.lt_trichotomy a j with q | q | q
    · rw [if_pos q, if_pos (by omega)]
    · subst q; rw [if_neg (by omega), if_pos rfl, if_pos (by omega), h]
    · rw [if_neg (by omega), if_neg (by omega), if_neg (by omega)]
      split <;> rfl
  rw [this]
theorem Lx_all (o : List Int) (R : List (List Int)) : Lx o R R.length 0 = R.map fun row => row.map (pl o) := by
  have h : (List.range R.length).map (fun (a : Nat) => hrow o (R.getD a []) (far_ R R.length 0 a)) = (List.range R.length).map fun (a : Nat) => (R.getD a []).map (pl o) := by
    refine List.map_congr_left fun a ha => ?_
    have ha := List.mem_range.1 ha
    have : far_ R R.length 0 a = (R.getD a []).length := by unfold far_; rw [if_pos ha]
    rw [this, hrow_all _ _ (Nat.le_refl _)]
  unfold Lx
  rw [h]
  apply List.ext_getElem?
  intro a
  rcases Nat.lt_or_ge a R.length with q | q
  · simp [q, List.getD]
  · rw [List.getElem?_eq_none (by simpa using q), List.getElem?_eq_none (by simpa using q)]
/-- The handles that are gone through. -/
def rup (R : List (List Int)) (j i : Nat) : List Int := (R.take j).flatten ++ (R.getD j []).take i
theorem rup_0 (R : List (List Int)) : rup R 0 0 = [] := by simp [rup]
theorem rup_step {R : List (List Int)} {j i : Nat} (h : i < (R.getD j []).length) : rup R j (i + 1) = rup R j i ++ [(R.getD j []).getD i 0] := by
  unfold rup
  generalize R.getD j [] = row at *
  rw [List.append_assoc, List.take_succ_eq_append_getElem h]
  simp [List.getD, List.getElem?_eq_getElem h]
theorem rup_next {R : List (List Int)} {j i : Nat} (hj : j < R.length) (h : i = (R.getD j []).length) : rup R j i = rup R (j + 1) 0 := by
  unfold rup
  rw [h, List.take_of_length_le (Nat.le_refl _), List.take_zero, List.append_nil, flat_take R hj]
theorem rup_all (R : List (List Int)) : rup R R.length 0 = R.flatten := by simp [rup]
theorem rup_mem {R : List (List Int)} {j i a b : Nat} (ha : a < R.length) (hb : b < (R.getD a []).length) (h : b < far_ R j i a) : (R.getD a []).getD b 0 ∈ rup R j i := by
  unfold rup far_ at *
  by_cases q : a < j
  · refine List.mem_append_left _ (List.mem_flatten.2 ⟨R.getD a [], ?_, getD_mem 0 hb⟩)
    have h2 : R[a]? = some (R.getD a []) := by simp [List.getD, List.getElem?_eq_getElem ha]
    exact List.mem_of_getElem? (i := a) (by rw [List.getElem?_take, if_pos q, h2])
  · rw [if_neg q] at h
    by_cases q2 : a = j
    · subst q2
      rw [if_pos rfl] at h
      refine List.mem_append_right _ ?_
      have h2 : (R.getD a [])[b]? = some ((R.getD a []).getD b 0) := by
        have := List.getElem?_eq_getElem hb
        rw [this]
        conv => rhs; rw [List.getD, this]
        rfl
      exact List.mem_of_getElem? (i := b) (by rw [List.getElem?_take, if_pos h, h2])
    · rw [if_neg q2] at h; omega
/-- One more handle is mapped. -/
theorem Lx_step {o o' : List Int} {R : List (List Int)} {j i : Nat} (hj : j < R.length) (hi : i < (R.getD j []).length) (h : ∀ n ∈ rup R j i, pl o' n = pl o n) :
    Lx o' R j (i + 1) = (Lx o R j i).set j ((hrow o (R.getD j []) i).set i (pl o' ((R.getD j []).getD i 0))) := by
  apply List.ext_getElem?
  intro a
  rcases Nat.lt_or_ge a R.length with q | q
  · rw [Lx_at _ _ _ _ q]
    by_cases e : j = a
    · subst e
      rw [List.getElem?_set_self (by rw [Lx_len]; exact q)]
      have : far_ R j (i + 1) j = i + 1 := by unfold far_; rw [if_neg (by omega), if_pos rfl]
      rw [this, hrow_step hi fun b hb hb2 => h _ (rup_mem hj hb2 (by unfold far_; rw [if_neg (by omega), if_pos rfl]; exact hb))]
    · rw [List.getElem?_set_ne e, Lx_at _ _ _ _ q]
      have : far_ R j (i + 1) a = far_ R j i a := by
        have e' : ¬ a = j := fun z => e z.symm
        unfold far_
        by_cases z : a < j
        · rw [if_pos z, if_pos z]
        · rw [if_neg z, if_neg z, if_neg e', if_neg e']
      rw [this, hrow_ext fun b hb hb2 => h _ (rup_mem q hb2 hb)]
  · rw [List.getElem?_eq_none (by rw [Lx_len]; exact q), List.getElem?_eq_none (by rw [List.length_set, Lx_len]; exact q)]
theorem plc_nil (N : Nat) : plc N [] = (List.replicate N (Value.int .u64 0)).toArray := by
  have : ∀ k : Nat, Value.int .u64 (pl [] ((k : Int) + 1)) = Value.int .u64 0 := fun k => by unfold pl; rw [if_neg (by simp)]
  unfold plc
  simp only [this]
  congr 1
  apply List.ext_getElem?
  intro a
  rcases Nat.lt_or_ge a N with q | q
  · simp [q]
  · rw [List.getElem?_eq_none (by simpa using q), List.getElem?_eq_none (by simpa using q)]
theorem make_wordsN (n : Nat) (hn : n ≤ 1048576) (w : World) :
    (Instr.makeSlice 60 (.int .i64 (n : Int)) (.int .i64 (n : Int))).run Try.prog w = .ok (.slice (some ⟨w.heap.size, 0, none⟩) n n) (w.alloc (.cells (List.replicate n (Value.int .u64 0)).toArray 26)) := by
  have := run_make_row' (P := Try.prog) 60 26 (.int .u64 0) 8 Try.underlying60 (by kernel_rfl) rfl .i64 .i64 n (by omega) (by omega) w
  rw [show madeCells #[Value.int .u64 0] n = (List.replicate n (Value.int .u64 0)).toArray from by
    apply Array.ext
    · simp [size_madeCells]
    · intro i h1 h2
      simp [madeCells, Nat.mod_one]] at this
  exact this
end Go.Proofs.Ytlocllcijncllaa
