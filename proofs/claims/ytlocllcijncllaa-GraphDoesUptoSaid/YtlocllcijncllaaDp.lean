/- Plain facts on what threads do: a right graph stays right, how many there are. -/
import Derived.Test.YtlocllcijncllaaGo
namespace Go.Proofs.Ytlocllcijncllaa
open Go.Joins Go.ChangeShapes Go.WideShapes Go.ChangeAt Go.RowKit Go.Deep Go.Shelf Go.Maps
set_option linter.unusedVariables false
set_option linter.unusedSimpArgs false

theorem rowOf_mem {g : Gr} {th x : Int} (h : x ∈ rowOf g th) : ∃ row ∈ g.2, x ∈ row := by
  unfold rowOf at h
  by_cases q : th.toNat < g.2.length
  · exact ⟨_, getD_mem [] q, h⟩
  · simp [List.getD, List.getElem?_eq_none (Nat.le_of_not_lt q)] at h
theorem push_rg {g : Gr} {th x : Int} (h : Rg g) (hx : 0 ≤ x ∧ x ≤ g.1.length) : Rg (pushG g th x) := by
  refine ⟨h.hd, h.mp, h.fu, h.pt, fun row hr y hy => ?_⟩
  rcases List.mem_or_eq_of_mem_set hr with q | q
  · exact h.hn row q y hy
  · subst q
    rcases List.mem_append.1 hy with q2 | q2
    · obtain ⟨row, h1, h2⟩ := rowOf_mem q2
      exact h.hn row h1 y h2
    · rw [List.mem_singleton.1 q2]; exact hx
theorem pop_rg {g : Gr} {th : Int} (h : Rg g) : Rg (popG g th) := by
  refine ⟨h.hd, h.mp, h.fu, h.pt, fun row hr y hy => ?_⟩
  rcases List.mem_or_eq_of_mem_set hr with q | q
  · exact h.hn row q y hy
  · subst q
    obtain ⟨row, h1, h2⟩ := rowOf_mem (List.dropLast_subset _ hy)
    exact h.hn row h1 y h2
theorem alloc_rg {g : Gr} {o : Op} (h : Rg g) (hok : okH o.t o.l o.m = true) (hm : U64 o.m) : Rg (allocN g o) := by
  have hl := okH_len hok
  have mem : ∀ n ∈ (allocN g o).1, n ∈ g.1 ∨ n = ((o.t, o.l, o.m), List.replicate o.l.toNat 0) := fun n hn => by
    rcases List.mem_append.1 hn with q | q
    · exact .inl q
    · exact .inr (List.mem_singleton.1 q)
  have hlen : (allocN g o).1.length = g.1.length + 1 := by simp [allocN]
  refine ⟨fun n hn => ?_, fun n hn => ?_, fun n hn x hx => ?_, fun n hn i hi hp => ?_, fun row hr y hy => ?_⟩
  · rcases mem n hn with q | q
    · exact h.hd n q
    · subst q; exact ⟨hok, by simp; omega⟩
  · rcases mem n hn with q | q
    · exact h.mp n q
    · subst q; exact hm
  · rcases mem n hn with q | q
    · exact h.fu n q x hx
    · subst q
      rw [List.eq_of_mem_replicate hx]
      exact ⟨by omega, by omega⟩
  · rw [hlen]
    rcases mem n hn with q | q
    · have := h.pt n q i hi hp
      omega
    · subst q
      have : (List.replicate o.l.toNat (0 : Int)).getD i 0 = 0 := by
        simp [List.getD, List.getElem?_replicate]
        split <;> rfl
      show (List.replicate o.l.toNat (0 : Int)).getD i 0 ≤ _
      rw [this]
      omega
  · rw [hlen]
    have := h.hn row hr y hy
    omega
theorem set_rg {g : Gr} {n v : Int} {i : Nat} (h : Rg g) (hin : inN g n) (hv : U64 v) (hp : isP (ndOf g n) i = true → v ≤ g.1.length) : Rg (setF g n i v) := by
  have mem : ∀ m ∈ (setF g n i v).1, m ∈ g.1 ∨ m = ((ndOf g n).1, (ndOf g n).2.set i v) := fun m hm => List.mem_or_eq_of_mem_set hm
  have hlen : (setF g n i v).1.length = g.1.length := by simp [setF]
  have hm := ndOf_mem hin
  refine ⟨fun m hm' => ?_, fun m hm' => ?_, fun m hm' x hx => ?_, fun m hm' j hj hpj => ?_, fun row hr y hy => by rw [hlen]; exact h.hn row hr y hy⟩
  · rcases mem m hm' with q | q
    · exact h.hd m q
    · subst q
      refine ⟨(h.hd _ hm).1, ?_⟩
      show (((ndOf g n).2.set i v).length : Int) = _
      rw [List.length_set]
      exact (h.hd _ hm).2
  · rcases mem m hm' with q | q
    · exact h.mp m q
    · subst q; exact h.mp (ndOf g n) hm
  · rcases mem m hm' with q | q
    · exact h.fu m q x hx
    · subst q
      rcases List.mem_or_eq_of_mem_set hx with q2 | q2
      · exact h.fu _ hm x q2
      · rw [q2]; exact hv
  · rw [hlen]
    rcases mem m hm' with q | q
    · exact h.pt m q j hj hpj
    · subst q
      have hj' : j < ((ndOf g n).2.set i v).length := hj
      rw [List.length_set] at hj'
      show ((ndOf g n).2.set i v).getD j 0 ≤ _
      by_cases e : i = j
      · subst e
        simp only [List.getD, List.getElem?_set_self hj', Option.getD_some]
        exact hp hpj
      · simp only [List.getD, List.getElem?_set_ne e]
        exact h.pt _ hm j hj' hpj
theorem scal_0 {g : Gr} {th : Int} {o : Op} (h : o.kd = 2 ∨ o.kd = 4 ∨ o.kd = 6 ∨ o.kd = 7) (he : errG g th o = 0) : fde g th o = 0 ∧ isP (hob g th o) o.i = false := by
  rw [errS h] at he
  split at he
  · rename_i q
    refine ⟨q, ?_⟩
    split at he
    · cases he
    · rename_i q2; simpa using q2
  · rename_i q; exact absurd he q
theorem pnt_3 {g : Gr} {th : Int} {o : Op} (h : o.kd = 3) (he : errG g th o = 0) : fde g th o = 0 ∧ isP (hob g th o) o.i = true ∧ rme g th = 0 := by
  rw [err3 h] at he
  split at he
  · rename_i q
    split at he
    · rename_i q2; exact ⟨q, q2, he⟩
    · cases he
  · rename_i q; exact absurd he q
theorem pnt_5 {g : Gr} {th : Int} {o : Op} (h : o.kd = 5) (he : errG g th o = 0) : fde g th o = 0 ∧ isP (hob g th o) o.i = true ∧ gte (rowOf g th) o.k = 0 := by
  rw [err5 h] at he
  split at he
  · rename_i q
    split at he
    · rename_i q2; exact ⟨q, q2, he⟩
    · cases he
  · rename_i q; exact absurd he q
theorem new_1 {g : Gr} {th : Int} {o : Op} (h : o.kd = 1) (he : errG g th o = 0) : okH o.t o.l o.m = true ∧ rme g th = 0 := by
  rw [err1 h] at he
  split at he
  · rename_i q; exact ⟨q, he⟩
  · cases he
theorem isP_nat {n : Nd} {i : Int} (h : 0 ≤ i) : isP n (i.toNat : Int) = isP n i := by rw [Int.toNat_of_nonneg h]
theorem addw_u (a b : Int) : U64 (Nm.addw a b) := by have := Nm.pk_bd (Nm.re a + Nm.re b) (Nm.im a + Nm.im b); unfold Nm.addw; exact ⟨this.1, by omega⟩
theorem mulw_u (a b : Int) : U64 (Nm.mulw a b) := by have := Nm.pk_bd (Nm.re a * Nm.re b - Nm.im a * Nm.im b) (Nm.re a * Nm.im b + Nm.im a * Nm.re b); unfold Nm.mulw; exact ⟨this.1, by omega⟩
/-- Where a write goes: the field is there; a pointer's word leads to a node. -/
theorem wr_ok {g : Gr} {th : Int} {o : Op} (hR : Rg g) (ht : isTh g th) (hn : g.1.length ≤ 1000000) (hv : U64 o.v) (h : o.kd = 4 ∨ o.kd = 5 ∨ o.kd = 6 ∨ o.kd = 7) (he : errG g th o = 0) :
    inN g (gtv (rowOf g th) o.h) ∧ U64 (wrv g th o) ∧ (isP (hob g th o) (o.i.toNat : Nat) = true → wrv g th o ≤ g.1.length) ∧ 0 ≤ o.i ∧ o.i < (hob g th o).2.length := by
  have hb := gtv_bd hR ht o.k
  have hu : U64 (wrv g th o) := by
    unfold wrv
    split
    · exact addw_u _ _
    · split
      · exact mulw_u _ _
      · split
        · exact ⟨hb.1, by omega⟩
        · exact hv
  by_cases h5 : o.kd = 5
  · obtain ⟨h1, h2, h3⟩ := pnt_5 h5 he
    obtain ⟨f1, f2, f3, f4⟩ := fde_in h1
    refine ⟨f2, hu, fun _ => ?_, f3, f4⟩
    unfold wrv
    rw [if_neg (by omega), if_neg (by omega), if_pos h5]
    exact hb.2
  · obtain ⟨h1, h2⟩ := scal_0 (by omega) he
    obtain ⟨f1, f2, f3, f4⟩ := fde_in h1
    refine ⟨f2, hu, fun q => ?_, f3, f4⟩
    rw [isP_nat f3, h2] at q
    cases q
theorem do_rg {g : Gr} {th : Int} {o : Op} (h : Rg g) (hn : g.1.length ≤ 1000000) (hv : U64 o.v) (hm : U64 o.m) : Rg (doG g th o).1 := by
  unfold doG
  split
  · rename_i ht
    split
    · rename_i he
      show Rg (newG g th o)
      unfold newG
      split
      · rename_i h1
        obtain ⟨q1, q2⟩ := new_1 h1 he
        exact push_rg (alloc_rg h q1 hm) (by simp [allocN]; omega)
      · split
        · rename_i h3
          obtain ⟨q1, q2, q3⟩ := pnt_3 h3 he
          obtain ⟨f1, f2, f3, f4⟩ := fde_in q1
          have hil : o.i.toNat < (hob g th o).2.length := by omega
          exact push_rg h ⟨(h.fu _ (ndOf_mem f2) _ (getD_mem 0 hil)).1, h.pt _ (ndOf_mem f2) _ hil (by rw [isP_nat f3]; exact q2)⟩
        · split
          · rename_i h4
            obtain ⟨w1, w2, w3, w4, w5⟩ := wr_ok h ht hn hv h4 he
            exact set_rg h w1 w2 w3
          · split
            · exact push_rg h (gtv_bd h ht _)
            · split
              · exact pop_rg h
              · exact h
    · exact h
  · exact h
theorem do_len {g : Gr} {th : Int} {o : Op} : (doG g th o).1.2.length = g.2.length ∧ g.1.length ≤ (doG g th o).1.1.length ∧ (doG g th o).1.1.length ≤ g.1.length + 1 := by
  unfold doG
  split
  · split
    · show (newG g th o).2.length = _ ∧ _ ≤ (newG g th o).1.length ∧ (newG g th o).1.length ≤ _
      unfold newG pushG allocN popG setF
      repeat' split
      all_goals simp
    · simp
  · simp
/-- An answer of an error alone. -/
theorem do_no {g : Gr} {th : Int} {o : Op} (h : (doG g th o).2.1 ≠ 0) : (doG g th o).1 = g ∧ (doG g th o).2 = ((doG g th o).2.1, 0, false) := by
  unfold doG at h ⊢
  split
  · rename_i ht
    rw [if_pos ht] at h
    split
    · rename_i he
      rw [if_pos he] at h
      exact absurd rfl h
    · exact ⟨rfl, rfl⟩
  · exact ⟨rfl, rfl⟩
theorem sum_set {L : List (List Int)} {j : Nat} {xs : List Int} {k : Nat} (h : xs.length ≤ (L.getD j []).length + k) : (L.set j xs).flatten.length ≤ L.flatten.length + k := by
  induction L generalizing j with
  | nil => simp
  | cons y r ih =>
    cases j with
    | zero =>
      simp only [List.set_cons_zero, List.flatten_cons, List.length_append]
      have : (y :: r).getD 0 [] = y := rfl
      rw [this] at h
      omega
    | succ j =>
      have := ih (j := j) (by simpa [List.getD] using h)
      simp only [List.set_cons_succ, List.flatten_cons, List.length_append]
      omega
theorem do_flat {g : Gr} {th : Int} {o : Op} : (doG g th o).1.2.flatten.length ≤ g.2.flatten.length + 1 := by
  have hp : ∀ (g : Gr) (x : Int), (pushG g th x).2.flatten.length ≤ g.2.flatten.length + 1 := fun g x => sum_set (by simp [rowOf])
  unfold doG
  split
  · split
    · show (newG g th o).2.flatten.length ≤ _
      unfold newG
      repeat' split
      · exact hp _ _
      · exact hp _ _
      · simp [setF]
      · exact hp _ _
      · exact sum_set (by simp [rowOf]; omega)
      · omega
    · simp
  · simp
end Go.Proofs.Ytlocllcijncllaa
