/- The document's New, handle, place of graphs (dovecoteref15): contracts. -/
import Derived.Test.YtlocllcijncllaaCq
namespace Go.Proofs.Ytlocllcijncllaa
open Go.Joins Go.ChangeShapes Go.WideShapes Go.ChangeAt Go.RowKit Go.Deep Go.Shelf Go.Maps
set_option linter.unusedVariables false
set_option linter.unusedSimpArgs false

theorem rnew_any (t : Int) (w : World) : Calls Try.prog 16 #[.int .i64 t] w fun e w' => ∃ v, e = .returned v ∧ GrV w' v (nullG t) ∧ Up w w' := by
  have h16 : thr t ≤ 16 := by unfold thr; split <;> (try split) <;> omega
  have hmk := make_int (thr t) (by omega)
  unfold nullG
  by_cases h0 : t < 0
  · have e : thr t = 0 := by unfold thr; rw [if_pos h0]
    have d0 : decide (t < 0) = true := decide_eq_true h0
    rw [e] at hmk h16 ⊢
    change ∀ w, (Instr.makeSlice 23 (.int .i64 0) (.int .i64 0)).run Try.prog w = _ at hmk
    go_enter Try.func16, Try.ntmps16
    go_wp2
    refine bodyPost_ret (results_cell_row rfl _ _ w.heap.size 25 _ _ _ rfl (Blk.alloc (Blk.new w _ _) _) Try.underlying25 rfl (by kernel_rfl)) rfl ?_
    exact ⟨_, rfl, ⟨_, _, rfl, Ns.nil _, null_rows (Blk.new' _ (by simp) _ _) h16⟩, ((Up.refl w).alloc _).alloc _⟩
  · have d0 : decide (t < 0) = false := decide_eq_false h0
    by_cases h1 : 16 < t
    · have e : thr t = 16 := by unfold thr; rw [if_neg h0, if_pos h1]
      have d1 : decide (t > 16) = true := decide_eq_true h1
      rw [e] at hmk h16 ⊢
      change ∀ w, (Instr.makeSlice 23 (.int .i64 16) (.int .i64 16)).run Try.prog w = _ at hmk
      go_enter Try.func16, Try.ntmps16
      go_wp2
      refine bodyPost_ret (results_cell_row rfl _ _ w.heap.size 25 _ _ _ rfl (Blk.alloc (Blk.new w _ _) _) Try.underlying25 rfl (by kernel_rfl)) rfl ?_
      exact ⟨_, rfl, ⟨_, _, rfl, Ns.nil _, null_rows (Blk.new' _ (by simp) _ _) h16⟩, ((Up.refl w).alloc _).alloc _⟩
    · have e : t = ((thr t : Nat) : Int) := by unfold thr; rw [if_neg h0, if_neg h1]; omega
      have d1 : decide (t > 16) = false := decide_eq_false h1
      generalize thr t = n at *
      subst e
      go_enter Try.func16, Try.ntmps16
      go_wp2
      refine bodyPost_ret (results_cell_row rfl _ _ w.heap.size 25 _ _ _ rfl (Blk.alloc (Blk.new w _ _) _) Try.underlying25 rfl (by kernel_rfl)) rfl ?_
      exact ⟨_, rfl, ⟨_, _, rfl, Ns.nil _, null_rows (Blk.new' _ (by simp) _ _) h16⟩, ((Up.refl w).alloc _).alloc _⟩
set_option maxHeartbeats 2000000 in
theorem rhandle_any (v : Value) (g : Gr) (th h : Int) (w : World) (hg : GrV w v g) (ht : isTh g th) : Calls Try.prog 40 #[v, .int .i64 th, .int .i64 h] w fun e w' => e = .returned (.tuple #[.int .i64 (gtv (rowOf g th) h), .int .i64 (gte (rowOf g th) h)]) ∧ Up w w' := by
  obtain ⟨A, c, B, d, rfl, m1, m2⟩ := hg.form
  obtain ⟨th, rfl⟩ : ∃ j : Nat, th = j := ⟨th.toNat, by have := ht.1; omega⟩
  have htl : th < g.2.length := by have := ht.2; omega
  obtain ⟨pr, PR, qr, rfl, hc0, hl0, hsl⟩ := hg.row_at htl
  have hrx := hsl.max
  unfold maxLen at hrx
  have hc := fun o => Up.cell ((Up.refl w).alloc o) hc0
  have HS := Lib.hid hsl
  clear hg ht hsl
  generalize g.1.length = n at *
  generalize g.2.length = s at *
  generalize rowOf g th = row at *
  have HU := Lib.hid (Up.refl w)
  by_cases h0 : h < 0
  · have d0 : decide (h < 0) = true := decide_eq_true h0
    have e1 : gtv row h = 0 := by unfold gtv; rw [if_neg (by omega)]
    have e2 : gte row h = 5 := by unfold gte; rw [if_neg (by omega)]
    rw [e1, e2]
    generalize row.length = m at *
    clear HS
    go_enter Try.func40, Try.ntmps40
    go_wp2
    go_ret2
    exact ⟨rfl, HU.out.alloc _⟩
  · obtain ⟨y, rfl⟩ : ∃ j : Nat, h = j := ⟨h.toNat, by omega⟩
    have d0 : decide ((y : Int) < 0) = false := decide_eq_false h0
    by_cases h1 : y < row.length
    · have e1 : gtv row y = row.getD y 0 := by unfold gtv; rw [if_pos (by omega)]; rfl
      have e2 : gte row y = 0 := by unfold gte; rw [if_pos (by omega)]
      rw [e1, e2]
      obtain ⟨pe, rfl, hce0⟩ := HS.out.at_ h1
      have hce := fun o => Up.cell ((Up.refl w).alloc o) hce0
      have hle := lt_of_cell hce0
      rw [block_of_add] at hle
      generalize row.getD y 0 = x at *
      generalize row.length = m at *
      clear HS
      go_enter Try.func40, Try.ntmps40
      go_wp2
      go_ret2
      exact ⟨rfl, HU.out.alloc _⟩
    · have e1 : gtv row y = 0 := by unfold gtv; rw [if_neg (by omega)]
      have e2 : gte row y = 5 := by unfold gte; rw [if_neg (by omega)]
      have h1' : row.length ≤ y := by omega
      rw [e1, e2]
      generalize row.length = m at *
      clear HS
      go_enter Try.func40, Try.ntmps40
      go_wp2
      go_ret2
      exact ⟨rfl, HU.out.alloc _⟩
theorem GrV.nd_at {w : World} {A B : Option Addr} {n c s d : Nat} {g : Gr} {j : Nat} (h : GrV w (.agg #[.slice A n c, .slice B s d]) g) (hj : j < g.1.length) : ∃ p u, A = some p ∧ NdAt w (p.add (j * 4)) (g.1.getD j nd0) u := by
  obtain ⟨a, b, e, h1, -⟩ := h
  simp only [Value.agg.injEq] at e
  obtain ⟨rfl, -⟩ := Prod.mk.inj (show ((_ : Value), (_ : Value)) = (_, _) from by
    have := congrArg Array.toList e
    simp only [List.cons.injEq, and_true] at this
    exact Prod.ext this.1 this.2)
  have hs := h1.len
  obtain ⟨p, u, e, hc, hr⟩ := h1.at_ (x := j) (by omega)
  exact ⟨p, u, e, hc⟩
theorem pl_first : ∀ (xs : List Int) (x : Nat) (n : Int), x < xs.length → xs.getD x 0 = n → (∀ i, i < x → xs.getD i 0 ≠ n) → pl xs n = (x : Int) + 1
  | [], x, n, h, _, _ => by simp at h
  | a :: r, 0, n, _, e, _ => by
    have e : a = n := e
    subst e
    simp [pl]
  | a :: r, x + 1, n, hx, e, h => by
    have ha : a ≠ n := h 0 (by omega)
    have e' : r.getD x 0 = n := by simpa [List.getD] using e
    have hx' : x < r.length := by simpa using hx
    have ih := pl_first r x n hx' e' (fun i hi => by simpa [List.getD] using h (i + 1) (by omega))
    have hm : n ∈ r := by rw [← e']; exact getD_mem 0 hx'
    unfold pl at ih ⊢
    rw [if_pos hm] at ih
    have e2 : (a == n) = false := by simpa using ha
    rw [if_pos (by simp [hm]), List.idxOf_cons, e2, cond_false]
    omega
theorem pl_none {xs : List Int} {n : Int} (h : ∀ i, i < xs.length → xs.getD i 0 ≠ n) : pl xs n = 0 := by
  unfold pl
  rw [if_neg]
  intro k
  obtain ⟨i, hi, e⟩ := List.getElem_of_mem k
  exact h i hi (by simp [List.getD, List.getElem?_eq_getElem hi, e])
def PlR (w : World) (xs : List Int) (n : Int) (i : Value) (wr : World) : Prop := ∃ x : Nat, x ≤ xs.length ∧ i = .int .i64 x ∧ (∀ j, j < x → xs.getD j 0 ≠ n) ∧ Up w wr
set_option maxHeartbeats 2000000 in
theorem rplace_any (u : Value) (xs : List Int) (n : Int) (w : World) (hx : Sl .i64 w u xs) : Calls Try.prog 44 #[u, .int .i64 n] w fun e w' => e = .returned (.int .i64 (pl xs n - 1)) ∧ Up w w' := by
  have HX := Lib.hid hx
  have m1 := hx.max
  unfold maxLen at m1
  obtain ⟨A, c, rfl⟩ := hx.slice
  generalize hB : pl xs n - 1 = bo
  have HB := Lib.hid hB
  generalize hl : xs.length = l at *
  have HL := Lib.hid hl
  clear hx hB hl
  go_enter Try.func44, Try.ntmps44
  go_wp2
  go_loopw [5] (fun i wr => PlR w xs n i wr) (fun i _ => l - (intOf i).toNat)
  case atStart => exact ⟨0, Nat.zero_le _, rfl, fun j hj => absurd hj (by omega), Up.refl _⟩
  case round =>
    obtain ⟨x, hx, rfl, ht, U⟩ := hrel
    rw [HL.out] at hx
    have HT := Lib.hid ht
    clear ht
    by_cases hlt : x < l
    · obtain ⟨p, rfl, hcp⟩ := (HX.out.up U).at_ hlt
      by_cases e : xs.getD x 0 = n
      · have HV : Hid (pl xs n = (x : Int) + 1) := Lib.hid (pl_first xs x n (by rw [HL.out]; exact hlt) e HT.out)
        have he : (xs.getD x 0 == n) = true := by simpa using e
        generalize xs.getD x 0 = v at *
        clear e
        go_wp2
        go_ret
        exact ⟨show Ending.returned (.int .i64 (x : Int)) = .returned (.int .i64 bo) from by rw [← HB.out, HV.out]; congr 2; omega, U⟩
      · have HV : Hid (∀ j, j < x + 1 → xs.getD j 0 ≠ n) := Lib.hid (fun j hj => by
          by_cases q : j < x
          · exact HT.out j q
          · obtain rfl : j = x := by omega
            exact e)
        have he : (xs.getD x 0 == n) = false := by simpa using e
        generalize xs.getD x 0 = v at *
        clear e
        go_wp2
        refine ⟨⟨x + 1, by rw [HL.out]; omega, by go_num, HV.out, U⟩, by simp [intOf]; omega⟩
    · obtain rfl : l = x := by omega
      have HV : Hid (pl xs n = 0) := Lib.hid (pl_none (fun i hi => HT.out i (by rw [← HL.out]; exact hi)))
      go_wp2
      go_ret
      exact ⟨show Ending.returned (.int .i64 (-1)) = .returned (.int .i64 bo) from by rw [← HB.out, HV.out]; rfl, U⟩
end Go.Proofs.Ytlocllcijncllaa
