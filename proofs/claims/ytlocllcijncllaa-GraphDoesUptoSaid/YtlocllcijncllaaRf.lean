/- The document's Pointer, Pointers, Ints, Words: contracts. -/
import Derived.Test.YtlocllcijncllaaGb
namespace Go.Proofs.Ytlocllcijncllaa
open Go.Joins Go.ChangeShapes Go.WideShapes Go.ChangeAt Go.RowKit Go.Deep Go.Shelf Go.Maps
set_option linter.unusedVariables false
set_option linter.unusedSimpArgs false

set_option maxHeartbeats 1000000 in
theorem rptr_any (t l m i : Int) (hm : 0 ≤ m) (hm1 : m ≤ 18446744073709551615) (h1 : l ≤ 62) (w : World) :
    Calls Try.prog 52 #[hdv t l m, .int .i64 i] w fun e w' => e = .returned (.bool (ptb l m i)) ∧ Up w w' := by
  have U := Lib.hid (Up.refl w)
  by_cases c0 : 0 ≤ i
  · by_cases c1 : i < l
    · have hp := pow_le i.toNat (by omega)
      have hpw := Lib.hid (fun w => rpow_at i c0 (by omega) w)
      have hd : 0 ≤ m / 2 ^ i.toNat ∧ m / 2 ^ i.toNat ≤ m := ⟨Int.ediv_nonneg hm (by omega), Int.ediv_le_self _ hm⟩
      have E : (m / 2 ^ i.toNat % 2 == 1) = ptb l m i := by
        unfold ptb
        rw [decide_eq_true c0, decide_eq_true c1]
        rfl
      obtain ⟨K, hK⟩ : ∃ K : Int, K = 2 ^ i.toNat := ⟨_, rfl⟩
      rw [← hK] at hp hpw hd E
      obtain ⟨p0, p1⟩ := hp
      obtain ⟨d0, d1⟩ := hd
      clear hK
      generalize ptb l m i = b at E
      have q1 : decide (l ≤ i) = false := decide_eq_false (by omega)
      go_enter Try.func52, Try.ntmps52
      go_wp2
      go_quiet ((go_at_call 51; exact quiet_same (hpw.out _)))
      go_wp2
      go_ret
      exact ⟨rfl, ((Up.refl _).alloc _).drewN _⟩
    · have E : ptb l m i = false := by unfold ptb; rw [decide_eq_false c1, Bool.false_and, Bool.and_false]
      rw [E]
      clear E
      have d1 : decide (l ≤ i) = true := decide_eq_true (by omega)
      go_enter Try.func52, Try.ntmps52
      go_wp2
      go_ret
      exact ⟨rfl, (Up.refl _).alloc _⟩
  · have E : ptb l m i = false := by unfold ptb; rw [decide_eq_false c0, Bool.false_and]
    rw [E]
    clear E
    go_enter Try.func52, Try.ntmps52
    go_wp2
    go_ret
    exact ⟨rfl, (Up.refl _).alloc _⟩

/-- The first fields that are pointers. -/
def ptk (l m : Int) (x : Nat) : List Nat := (List.range x).filter fun i : Nat => ptb l m i
theorem ptk_yes {l m : Int} {x : Nat} (h : ptb l m x = true) : ptk l m (x + 1) = ptk l m x ++ [x] := by simp [ptk, List.range_succ, h]
theorem ptk_no {l m : Int} {x : Nat} (h : ptb l m x = false) : ptk l m (x + 1) = ptk l m x := by simp [ptk, List.range_succ, h]
theorem ptk_len (l m : Int) (x : Nat) : (ptk l m x).length ≤ x := by
  unfold ptk
  have := List.length_filter_le (fun i : Nat => ptb l m i) (List.range x)
  simpa using this
/-- A row of places of fields. -/
def Loi (w : World) (n₀ : Nat) (v : Value) (xs : List Nat) : Prop := w.ownsRow n₀ 3 1 v xs.length (xs.map fun x : Nat => Value.int .i64 x)
def PkRel (l m t : Int) (w : World) (u3 i : Value) (wr : World) : Prop :=
  ∃ x : Nat, (x : Int) ≤ l ∧ i = .int .i64 x ∧ Loi wr w.heap.size u3 (ptk l m x) ∧ Below w.heap.size w wr ∧ Blk wr w.heap.size 28 #[.int .i64 t, .int .i64 l, .int .u64 m]
set_option maxHeartbeats 4000000 in
theorem rptrs_any (t l m : Int) (hl0 : 0 ≤ l) (hl1 : l ≤ 62) (hm : 0 ≤ m) (hm1 : m ≤ 18446744073709551615) (w : World) :
    Calls Try.prog 27 #[hdv t l m] w fun e w' => ∃ v, e = .returned v ∧ Loi w' w.heap.size v (ptk l m l.toNat) ∧ Up w w' := by
  have hp := Lib.hid (fun (i : Int) (w : World) => rptr_any t l m i hm hm1 hl1 w)
  obtain ⟨i0, hi, hz0, hz1, hz2⟩ := info_parts (P := Try.prog) (e := 3) (z := .int .i64 0) (size := 1) (bytes := 8) (by kernel_rfl)
  clear hm hm1
  go_enter Try.func27, Try.ntmps27
  go_wp2
  go_loopw [3, 4] (fun u3 i wr => PkRel l m t w u3 i wr) (fun _ i _ => l.toNat - (intOf i).toNat)
  case atStart => exact ⟨0, hl0, rfl, World.ownsRow_nil _ _ _ _, (Up.refl w).alloc _, Blk.new w _ _⟩
  case round =>
    obtain ⟨x, hx, rfl, hlo, hB, hH⟩ := hrel
    have hHc := hH.cell
    have hsz := hB.size
    by_cases hlt : (x : Int) < l
    · have hpx := Lib.hid (fun w => hp.out (x : Int) w)
      have hlen := ptk_len l m x
      generalize hb : ptb l m x = b at hpx
      cases b
      · have PK := Lib.hid (ptk_no hb)
        clear hb
        have HLO := Lib.hid hlo
        clear hlo
        go_wp2_with (fail)
        refine (hpx.out _).mono ?_
        rintro e w1 ⟨rfl, h1⟩
        have H1 := Lib.hid (hH.up h1)
        have B1 := Lib.hid (hB.trans (Below.mono h1 hsz))
        have L1 : Hid (Loi w1 w.heap.size u3 (ptk l m x)) := Lib.hid (World.ownsRow.kept HLO.out h1.gb (by cases e : u3.ownBlock with | none => exact .inl rfl | some g => exact .inr (by simp)))
        clear h1 hH hB hHc HLO
        go_wp2
        refine ⟨⟨x + 1, by omega, by go_num, by rw [PK.out]; exact L1.out, B1.out, H1.out⟩, by simp [intOf]; omega⟩
      · have PK := Lib.hid (ptk_yes hb)
        clear hb
        have HLO := Lib.hid hlo
        clear hlo
        go_wp2_with (fail)
        refine (hpx.out _).mono ?_
        rintro e w1 ⟨rfl, h1⟩
        have H1 := hH.up h1
        have B1 := hB.trans (Below.mono h1 hsz)
        have L1 : w1.ownsRow w.heap.size 3 1 u3 (ptk l m x).length ((ptk l m x).map fun x : Nat => Value.int .i64 x) := World.ownsRow.kept HLO.out h1.gb (by cases e : u3.ownBlock with | none => exact .inl rfl | some g => exact .inr (by simp))
        have hs1 := B1.size
        clear h1 hH hB hHc HLO
        go_wp2_with (at_builtin; refine wpList_append_own_at _ rfl _ _ 47 rfl w.heap.size 3 i0 (.int .i64 0) 1 8 Try.underlying47 hi hz0 hz1 hz2 rfl (by decide) _ _ _ rfl (L1.alloc _) ⟨w1.heap.size, 0, none⟩ 1 1 [.int .i64 x] rfl rfl (cell_one_new _ _ _) (by simp [Value.oneCell']) (by unfold maxLen; omega) (by omega) (by simp; omega) ?_; intro v' w2 hown' hgrow _ hloc; obtain ⟨g', cap', rfl⟩ := ownsRow_succ hown')
        have hg2 : (w1.alloc (.cells #[.int .i64 x] 3)).grownBy w2 u3.ownBlock := hgrow
        refine ⟨⟨x + 1, by omega, by go_num, ?_, ?_, ?_⟩, by simp [intOf]; omega⟩
        · rw [PK.out]
          unfold Loi
          simpa using hown'
        · refine B1.trans (((Below.refl w.heap.size w1).alloc hs1 _).grown hg2 (by simp; omega) (fun k e => ?_))
          exact (World.ownsRow.lt L1 k e).1
        · exact (H1.alloc _).grown hg2 (own_row_ne L1 H1 (by decide))
    · obtain ⟨y, rfl⟩ : ∃ y : Nat, l = y := ⟨l.toNat, by omega⟩
      obtain rfl : x = y := by omega
      go_wp2
      go_ret
      exact ⟨u3, rfl, hlo, hB⟩


theorem take_more {xs ys : List Int} {x : Nat} (h : xs.take x = ys.take x) (h1 : x < xs.length) (h2 : x < ys.length) (e : xs.getD x 0 = ys.getD x 0) : xs.take (x + 1) = ys.take (x + 1) := by
  rw [List.take_succ_eq_append_getElem h1, List.take_succ_eq_append_getElem h2, h]
  simp [List.getD, List.getElem?_eq_getElem h1, List.getElem?_eq_getElem h2] at e
  rw [e]
theorem ne_of_get {xs ys : List Int} {x : Nat} (e : xs.getD x 0 ≠ ys.getD x 0) : xs ≠ ys := fun h => e (by rw [h])
def EqRel (w : World) (xs ys : List Int) (n : Nat) (i : Value) (wr : World) : Prop := ∃ x : Nat, x ≤ n ∧ i = .int .i64 x ∧ xs.take x = ys.take x ∧ ∃ m, wr = w.drewN m

set_option maxHeartbeats 2000000 in
theorem req_words (u v : Value) (xs ys : List Int) (w : World) (hx : Sl .u64 w u xs) (hy : Sl .u64 w v ys) :
    Calls Try.prog 28 #[u, v] w fun e w' => e = .returned (.bool (decide (xs = ys))) ∧ ∃ m, w' = w.drewN m := by
  have HX := Lib.hid hx
  have HY := Lib.hid hy
  have hm := hx.max
  obtain ⟨A, c, rfl⟩ := hx.slice
  obtain ⟨B, d, rfl⟩ := hy.slice
  unfold maxLen at hm
  by_cases hl : xs.length = ys.length
  · have Ly := Lib.hid hl.symm
    rw [← hl] at HY ⊢
    generalize hn : xs.length = n at *
    have Lx := Lib.hid hn
    generalize hB : decide (xs = ys) = bo
    have HB := Lib.hid hB
    clear hx hy hB hn hl
    go_enter Try.func28, Try.ntmps28
    go_wp2
    go_loopw [5] (fun i wr => EqRel w xs ys n i wr) (fun i _ => n - (intOf i).toNat)
    case atStart => exact ⟨0, Nat.zero_le _, rfl, rfl, 0, rfl⟩
    case round =>
      obtain ⟨x, hx, rfl, ht, m, rfl⟩ := hrel
      have HT := Lib.hid ht
      clear ht
      by_cases hlt : x < n
      · obtain ⟨p, rfl, hcp⟩ := HX.out.at_ hlt
        obtain ⟨q, rfl, hcq⟩ := HY.out.at_ hlt
        by_cases e : xs.getD x 0 = ys.getD x 0
        · have E := Lib.hid e
          rw [← e] at hcq
          generalize xs.getD x 0 = a at hcp hcq
          clear e
          go_wp2
          go_quiet (fail)
          go_wp2
          refine ⟨⟨x + 1, by omega, by go_num, take_more HT.out (by rw [Lx.out]; exact hlt) (by rw [Ly.out]; exact hlt) E.out, m + nq, rfl⟩, by simp [intOf]; omega⟩
        · have E := Lib.hid e
          generalize hu : xs.getD x 0 = a at hcp e
          generalize hv : ys.getD x 0 = b at hcq e
          have hb : (a != b) = true := bne_iff_ne.2 e
          clear e hu hv
          go_wp2
          go_quiet (fail)
          go_wp2
          go_ret
          exact ⟨show Ending.returned (.bool false) = .returned (.bool bo) from by rw [← HB.out, decide_eq_false (ne_of_get E.out)], m + nq, by first | rfl | rw [World.drewN_drewN]⟩
      · obtain rfl : n = x := by omega
        go_wp2
        go_ret
        have h := HT.out
        rw [List.take_of_length_le (by rw [Lx.out]; exact Nat.le_refl _), List.take_of_length_le (by rw [Ly.out]; exact Nat.le_refl _)] at h
        exact ⟨show Ending.returned (.bool true) = .returned (.bool bo) from by rw [← HB.out, decide_eq_true h], m, rfl⟩
  · rw [decide_eq_false (fun e => hl (by rw [e]))]
    have hb : ((xs.length : Int) != (ys.length : Int)) = true := bne_iff_ne.2 (by omega)
    clear hx hy hl
    generalize xs.length = n at *
    generalize ys.length = k at *
    go_enter Try.func28, Try.ntmps28
    go_wp2
    go_ret
    exact ⟨rfl, 0, rfl⟩

set_option maxHeartbeats 2000000 in
theorem req_ints (u v : Value) (xs ys : List Int) (w : World) (hx : Sl .i64 w u xs) (hy : Sl .i64 w v ys) :
    Calls Try.prog 29 #[u, v] w fun e w' => e = .returned (.bool (decide (xs = ys))) ∧ ∃ m, w' = w.drewN m := by
  have HX := Lib.hid hx
  have HY := Lib.hid hy
  have hm := hx.max
  obtain ⟨A, c, rfl⟩ := hx.slice
  obtain ⟨B, d, rfl⟩ := hy.slice
  unfold maxLen at hm
  by_cases hl : xs.length = ys.length
  · have Ly := Lib.hid hl.symm
    rw [← hl] at HY ⊢
    generalize hn : xs.length = n at *
    have Lx := Lib.hid hn
    generalize hB : decide (xs = ys) = bo
    have HB := Lib.hid hB
    clear hx hy hB hn hl
    go_enter Try.func29, Try.ntmps29
    go_wp2
    go_loopw [5] (fun i wr => EqRel w xs ys n i wr) (fun i _ => n - (intOf i).toNat)
    case atStart => exact ⟨0, Nat.zero_le _, rfl, rfl, 0, rfl⟩
    case round =>
      obtain ⟨x, hx, rfl, ht, m, rfl⟩ := hrel
      have HT := Lib.hid ht
      clear ht
      by_cases hlt : x < n
      · obtain ⟨p, rfl, hcp⟩ := HX.out.at_ hlt
        obtain ⟨q, rfl, hcq⟩ := HY.out.at_ hlt
        by_cases e : xs.getD x 0 = ys.getD x 0
        · have E := Lib.hid e
          rw [← e] at hcq
          generalize xs.getD x 0 = a at hcp hcq
          clear e
          go_wp2
          go_quiet (fail)
          go_wp2
          refine ⟨⟨x + 1, by omega, by go_num, take_more HT.out (by rw [Lx.out]; exact hlt) (by rw [Ly.out]; exact hlt) E.out, m + nq, rfl⟩, by simp [intOf]; omega⟩
        · have E := Lib.hid e
          generalize hu : xs.getD x 0 = a at hcp e
          generalize hv : ys.getD x 0 = b at hcq e
          have hb : (a != b) = true := bne_iff_ne.2 e
          clear e hu hv
          go_wp2
          go_quiet (fail)
          go_wp2
          go_ret
          exact ⟨show Ending.returned (.bool false) = .returned (.bool bo) from by rw [← HB.out, decide_eq_false (ne_of_get E.out)], m + nq, by first | rfl | rw [World.drewN_drewN]⟩
      · obtain rfl : n = x := by omega
        go_wp2
        go_ret
        have h := HT.out
        rw [List.take_of_length_le (by rw [Lx.out]; exact Nat.le_refl _), List.take_of_length_le (by rw [Ly.out]; exact Nat.le_refl _)] at h
        exact ⟨show Ending.returned (.bool true) = .returned (.bool bo) from by rw [← HB.out, decide_eq_true h], m, rfl⟩
  · rw [decide_eq_false (fun e => hl (by rw [e]))]
    have hb : ((xs.length : Int) != (ys.length : Int)) = true := bne_iff_ne.2 (by omega)
    clear hx hy hl
    generalize xs.length = n at *
    generalize ys.length = k at *
    go_enter Try.func29, Try.ntmps29
    go_wp2
    go_ret
    exact ⟨rfl, 0, rfl⟩
end Go.Proofs.Ytlocllcijncllaa
