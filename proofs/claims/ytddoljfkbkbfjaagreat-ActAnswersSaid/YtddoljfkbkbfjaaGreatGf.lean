/- The document's Same of graphs: contracts. -/
import Derived.Test.YtddoljfkbkbfjaaGreatGb
/-! Of stage 15 -/
namespace Go.Proofs.YtddoljfkbkbfjaaGreat.G
open Go.Joins Go.ChangeShapes Go.WideShapes Go.ChangeAt Go.RowKit Go.Deep Go.Shelf Go.Maps
set_option linter.unusedVariables false
set_option linter.unusedSimpArgs false

def PkRel (l m t : Int) (w : World) (u3 i : Value) (wr : World) : Prop :=
  ∃ x : Nat, (x : Int) ≤ l ∧ i = .int .i64 x ∧ Loi wr w.heap.size u3 (ptk l m x) ∧ Below w.heap.size w wr ∧ Blk wr w.heap.size 60 #[.int .i64 t, .int .i64 l, .int .u64 m]
set_option maxRecDepth 100000 in
set_option maxHeartbeats 4000000 in
theorem rptrs_any (t l m : Int) (hl0 : 0 ≤ l) (hl1 : l ≤ 62) (hm : 0 ≤ m) (hm1 : m ≤ 18446744073709551615) (w : World) :
    Calls Tryz.prog 66 #[hdv t l m] w fun e w' => ∃ v, e = .returned v ∧ Loi w' w.heap.size v (ptk l m l.toNat) ∧ Up w w' := by
  have hp := Lib.hid (fun (i : Int) (w : World) => rptr_any t l m i hm hm1 hl1 w)
  obtain ⟨i0, hi, hz0, hz1, hz2⟩ := info_parts (P := Tryz.prog) (e := 3) (z := .int .i64 0) (size := 1) (bytes := 8) (by kernel_rfl)
  clear hm hm1
  go_enter Tryz.func66, Tryz.ntmps66
  go_wp2
  go_loopw [3, 4] (fun u3 i wr => PkRel l m t w u3 i wr) (fun _ i _ => l.toNat - (intOf i).toNat)
  case atStart => exact ⟨0, hl0, rfl, World.ownsRow_nil _ _ _ _, (Up.refl w).alloc _, Blk.new w _ _⟩
  case round =>
    obtain ⟨x, hx, rfl, hlo, hB, hH⟩ := hrel
    have hHc := hH.cell
    have hsz := hB.size
    by_cases hlt : (x : Int) < l
    · have hpx := Lib.hid (fun w => hp.out (x : Int) w)
      have hlen := ptk_len l m x
      generalize hb : ptb l m x = b at hpx
      cases b
      · have PK := Lib.hid (ptk_no hb)
        clear hb
        have HLO := Lib.hid hlo
        clear hlo
        go_wp2_with (fail)
        refine (hpx.out _).mono ?_
        rintro e w1 ⟨rfl, h1⟩
        have H1 := Lib.hid (hH.up h1)
        have B1 := Lib.hid (hB.trans (Below.mono h1 hsz))
        have L1 : Hid (Loi w1 w.heap.size u3 (ptk l m x)) := Lib.hid (World.ownsRow.kept HLO.out h1.gb (by cases e : u3.ownBlock with | none => exact .inl rfl | some g => exact .inr (by simp)))
        clear h1 hH hB hHc HLO
        go_wp2
        refine ⟨⟨x + 1, by omega, by go_num, by rw [PK.out]; exact L1.out, B1.out, H1.out⟩, by simp [intOf]; omega⟩
      · have PK := Lib.hid (ptk_yes hb)
        clear hb
        have HLO := Lib.hid hlo
        clear hlo
        go_wp2_with (fail)
        refine (hpx.out _).mono ?_
        rintro e w1 ⟨rfl, h1⟩
        have H1 := hH.up h1
        have B1 := hB.trans (Below.mono h1 hsz)
        have L1 : w1.ownsRow w.heap.size 3 1 u3 (ptk l m x).length ((ptk l m x).map fun x : Nat => Value.int .i64 x) := World.ownsRow.kept HLO.out h1.gb (by cases e : u3.ownBlock with | none => exact .inl rfl | some g => exact .inr (by simp))
        have hs1 := B1.size
        clear h1 hH hB hHc HLO
        go_wp2_with (at_builtin; refine wpList_append_own_at _ rfl _ _ 29 rfl w.heap.size 3 i0 (.int .i64 0) 1 8 Tryz.underlying29 hi hz0 hz1 hz2 rfl (by decide) _ _ _ rfl (L1.alloc _) ⟨w1.heap.size, 0, none⟩ 1 1 [.int .i64 x] rfl rfl (cell_one_new _ _ _) (by simp [Value.oneCell']) (by unfold maxLen; omega) (by omega) (by simp; omega) ?_; intro v' w2 hown' hgrow _ hloc; obtain ⟨g', cap', rfl⟩ := ownsRow_succ hown')
        have hg2 : (w1.alloc (.cells #[.int .i64 x] 3)).grownBy w2 u3.ownBlock := hgrow
        refine ⟨⟨x + 1, by omega, by go_num, ?_, ?_, ?_⟩, by simp [intOf]; omega⟩
        · rw [PK.out]
          unfold Loi
          simpa using hown'
        · refine B1.trans (((Below.refl w.heap.size w1).alloc hs1 _).grown hg2 (by simp; omega) (fun k e => ?_))
          exact (World.ownsRow.lt L1 k e).1
        · exact (H1.alloc _).grown hg2 (own_row_ne L1 H1 (by decide))
    · obtain ⟨y, rfl⟩ : ∃ y : Nat, l = y := ⟨l.toNat, by omega⟩
      obtain rfl : x = y := by omega
      go_wp2
      go_ret
      exact ⟨u3, rfl, hlo, hB⟩


def EqRel (w : World) (xs ys : List Int) (n : Nat) (i : Value) (wr : World) : Prop := ∃ x : Nat, x ≤ n ∧ i = .int .i64 x ∧ xs.take x = ys.take x ∧ ∃ m, wr = w.drewN m

set_option maxRecDepth 100000 in
set_option maxHeartbeats 2000000 in
theorem req_words (u v : Value) (xs ys : List Int) (w : World) (hx : Sl .u64 w u xs) (hy : Sl .u64 w v ys) :
    Calls Tryz.prog 51 #[u, v] w fun e w' => e = .returned (.bool (decide (xs = ys))) ∧ ∃ m, w' = w.drewN m := by
  have HX := Lib.hid hx
  have HY := Lib.hid hy
  have hm := hx.max
  obtain ⟨A, c, rfl⟩ := hx.slice
  obtain ⟨B, d, rfl⟩ := hy.slice
  unfold maxLen at hm
  by_cases hl : xs.length = ys.length
  · have Ly := Lib.hid hl.symm
    rw [← hl] at HY ⊢
    generalize hn : xs.length = n at *
    have Lx := Lib.hid hn
    generalize hB : decide (xs = ys) = bo
    have HB := Lib.hid hB
    clear hx hy hB hn hl
    go_enter Tryz.func51, Tryz.ntmps51
    go_wp2
    go_loopw [5] (fun i wr => EqRel w xs ys n i wr) (fun i _ => n - (intOf i).toNat)
    case atStart => exact ⟨0, Nat.zero_le _, rfl, rfl, 0, rfl⟩
    case round =>
      obtain ⟨x, hx, rfl, ht, m, rfl⟩ := hrel
      have HT := Lib.hid ht
      clear ht
      by_cases hlt : x < n
      · obtain ⟨p, rfl, hcp⟩ := HX.out.at_ hlt
        obtain ⟨q, rfl, hcq⟩ := HY.out.at_ hlt
        by_cases e : xs.getD x 0 = ys.getD x 0
        · have E := Lib.hid e
          rw [← e] at hcq
          generalize xs.getD x 0 = a at hcp hcq
          clear e
          go_wp2
          go_quiet (fail)
          go_wp2
          refine ⟨⟨x + 1, by omega, by go_num, take_more HT.out (by rw [Lx.out]; exact hlt) (by rw [Ly.out]; exact hlt) E.out, m + nq, rfl⟩, by simp [intOf]; omega⟩
        · have E := Lib.hid e
          generalize hu : xs.getD x 0 = a at hcp e
          generalize hv : ys.getD x 0 = b at hcq e
          have hb : (a != b) = true := bne_iff_ne.2 e
          clear e hu hv
          go_wp2
          go_quiet (fail)
          go_wp2
          go_ret
          exact ⟨show Ending.returned (.bool false) = .returned (.bool bo) from by rw [← HB.out, decide_eq_false (ne_of_get E.out)], m + nq, by first | rfl | rw [World.drewN_drewN]⟩
      · obtain rfl : n = x := by omega
        go_wp2
        go_ret
        have h := HT.out
        rw [List.take_of_length_le (by rw [Lx.out]; exact Nat.le_refl _), List.take_of_length_le (by rw [Ly.out]; exact Nat.le_refl _)] at h
        exact ⟨show Ending.returned (.bool true) = .returned (.bool bo) from by rw [← HB.out, decide_eq_true h], m, rfl⟩
  · rw [decide_eq_false (fun e => hl (by rw [e]))]
    have hb : ((xs.length : Int) != (ys.length : Int)) = true := bne_iff_ne.2 (by omega)
    clear hx hy hl
    generalize xs.length = n at *
    generalize ys.length = k at *
    go_enter Tryz.func51, Tryz.ntmps51
    go_wp2
    go_ret
    exact ⟨rfl, 0, rfl⟩

set_option maxRecDepth 100000 in
set_option maxHeartbeats 2000000 in
theorem req_ints (u v : Value) (xs ys : List Int) (w : World) (hx : Sl .i64 w u xs) (hy : Sl .i64 w v ys) :
    Calls Tryz.prog 30 #[u, v] w fun e w' => e = .returned (.bool (decide (xs = ys))) ∧ ∃ m, w' = w.drewN m := by
  have HX := Lib.hid hx
  have HY := Lib.hid hy
  have hm := hx.max
  obtain ⟨A, c, rfl⟩ := hx.slice
  obtain ⟨B, d, rfl⟩ := hy.slice
  unfold maxLen at hm
  by_cases hl : xs.length = ys.length
  · have Ly := Lib.hid hl.symm
    rw [← hl] at HY ⊢
    generalize hn : xs.length = n at *
    have Lx := Lib.hid hn
    generalize hB : decide (xs = ys) = bo
    have HB := Lib.hid hB
    clear hx hy hB hn hl
    go_enter Tryz.func30, Tryz.ntmps30
    go_wp2
    go_loopw [5] (fun i wr => EqRel w xs ys n i wr) (fun i _ => n - (intOf i).toNat)
    case atStart => exact ⟨0, Nat.zero_le _, rfl, rfl, 0, rfl⟩
    case round =>
      obtain ⟨x, hx, rfl, ht, m, rfl⟩ := hrel
      have HT := Lib.hid ht
      clear ht
      by_cases hlt : x < n
      · obtain ⟨p, rfl, hcp⟩ := HX.out.at_ hlt
        obtain ⟨q, rfl, hcq⟩ := HY.out.at_ hlt
        by_cases e : xs.getD x 0 = ys.getD x 0
        · have E := Lib.hid e
          rw [← e] at hcq
          generalize xs.getD x 0 = a at hcp hcq
          clear e
          go_wp2
          go_quiet (fail)
          go_wp2
          refine ⟨⟨x + 1, by omega, by go_num, take_more HT.out (by rw [Lx.out]; exact hlt) (by rw [Ly.out]; exact hlt) E.out, m + nq, rfl⟩, by simp [intOf]; omega⟩
        · have E := Lib.hid e
          generalize hu : xs.getD x 0 = a at hcp e
          generalize hv : ys.getD x 0 = b at hcq e
          have hb : (a != b) = true := bne_iff_ne.2 e
          clear e hu hv
          go_wp2
          go_quiet (fail)
          go_wp2
          go_ret
          exact ⟨show Ending.returned (.bool false) = .returned (.bool bo) from by rw [← HB.out, decide_eq_false (ne_of_get E.out)], m + nq, by first | rfl | rw [World.drewN_drewN]⟩
      · obtain rfl : n = x := by omega
        go_wp2
        go_ret
        have h := HT.out
        rw [List.take_of_length_le (by rw [Lx.out]; exact Nat.le_refl _), List.take_of_length_le (by rw [Ly.out]; exact Nat.le_refl _)] at h
        exact ⟨show Ending.returned (.bool true) = .returned (.bool bo) from by rw [← HB.out, decide_eq_true h], m, rfl⟩
  · rw [decide_eq_false (fun e => hl (by rw [e]))]
    have hb : ((xs.length : Int) != (ys.length : Int)) = true := bne_iff_ne.2 (by omega)
    clear hx hy hl
    generalize xs.length = n at *
    generalize ys.length = k at *
    go_enter Tryz.func30, Tryz.ntmps30
    go_wp2
    go_ret
    exact ⟨rfl, 0, rfl⟩

end Go.Proofs.YtddoljfkbkbfjaaGreat.G
/-! Of stage 15 -/
namespace Go.Proofs.YtddoljfkbkbfjaaGreat.G
open Go.Joins Go.ChangeShapes Go.WideShapes Go.ChangeAt Go.RowKit Go.Deep Go.Shelf Go.Maps
set_option linter.unusedVariables false
set_option linter.unusedSimpArgs false

theorem ne_head (a b c x y z : Int) (w : World) : (binOp .neq 60 (.agg #[.int .i64 a, .int .i64 b, .int .u64 c]) (.agg #[.int .i64 x, .int .i64 y, .int .u64 z])).run Tryz.prog w = .ok (.bool (!decide (a = x ∧ b = y ∧ c = z))) w := by
  rw [run_neq_struct, run_equalIn_agg _ _ _ _ _ (by rw [fieldsOf_of Tryz.underlying60]; exact Tryz.underlying60) (by kernel_rfl), fieldsOf_of Tryz.underlying60]
  simp [Op.eqFields, go_sem]
  by_cases h : a = x <;> by_cases k : b = y <;> by_cases l : c = z <;> simp [h, k, l]
theorem take_moreG {α : Type} {xs ys : List α} {x : Nat} (d : α) (h : xs.take x = ys.take x) (h1 : x < xs.length) (h2 : x < ys.length) (e : xs.getD x d = ys.getD x d) : xs.take (x + 1) = ys.take (x + 1) := by
  rw [List.take_succ_eq_append_getElem h1, List.take_succ_eq_append_getElem h2, h]
  simp [List.getD, List.getElem?_eq_getElem h1, List.getElem?_eq_getElem h2] at e
  rw [e]
theorem ne_getG {α : Type} {xs ys : List α} {x : Nat} (d : α) (e : xs.getD x d ≠ ys.getD x d) : xs ≠ ys := fun h => e (by rw [h])
theorem quietW {P : Program} {f : FuncId} {args : Array Value} {v : Value} {w : World} {m : Nat} (h : Calls P f args (w.drewN m) fun e w' => e = .returned v ∧ ∃ n, w' = (w.drewN m).drewN n) : Calls P f args (w.drewN m) fun e w' => e = .returned v ∧ ∃ n, w' = w.drewN n :=
  h.mono fun e w' ⟨h1, k, h2⟩ => ⟨h1, m + k, by rw [h2, World.drewN_drewN]⟩
abbrev nd0 : Nd := ((0, 0, 0), [])
def SmRel (w : World) (va vb vc vd : Value) (ns ms : List Nd) (n : Nat) (i : Value) (wr : World) : Prop := ∃ x : Nat, x ≤ n ∧ i = .int .i64 x ∧ ns.take x = ms.take x ∧ Blk wr w.heap.size 49 #[va, vb] ∧ Blk wr (w.heap.size + 1) 49 #[vc, vd] ∧ Up w wr
def SsRel (w : World) (va vb vc vd : Value) (L K : List (List Int)) (n : Nat) (i : Value) (wr : World) : Prop := ∃ x : Nat, x ≤ n ∧ i = .int .i64 x ∧ L.take x = K.take x ∧ Blk wr w.heap.size 49 #[va, vb] ∧ Blk wr (w.heap.size + 1) 49 #[vc, vd] ∧ Up w wr
set_option maxRecDepth 100000 in
set_option maxHeartbeats 4000000 in
theorem rsame_any (u v : Value) (g k : Gr) (w : World) (hg : GrV w u g) (hk : GrV w v k) : Calls Tryz.prog 49 #[u, v] w fun e w' => e = .returned (.bool (decide (g = k))) ∧ Up w w' := by
  obtain ⟨ga, gb, rfl, hga, hgb⟩ := hg
  obtain ⟨ka, kb, rfl, hka, hkb⟩ := hk
  have HGA := Lib.hid hga
  have HGB := Lib.hid hgb
  have HKA := Lib.hid hka
  have HKB := Lib.hid hkb
  obtain ⟨A1, c1, rfl, m1⟩ := hga.slice
  obtain ⟨A2, c2, rfl, m2⟩ := hgb.slice
  obtain ⟨A3, c3, rfl, m3⟩ := hka.slice
  obtain ⟨A4, c4, rfl, m4⟩ := hkb.slice
  unfold maxLen at m1 m2 m3 m4
  by_cases hn : g.1.length = k.1.length
  · by_cases hs : g.2.length = k.2.length
    · have HN := Lib.hid hn
      have HS := Lib.hid hs
      rw [← hn] at HKA ⊢
      rw [← hs] at HKB ⊢
      generalize hnn : g.1.length = n at *
      generalize hss : g.2.length = s at *
      have LN := Lib.hid hnn
      have LS := Lib.hid hss
      generalize hB : decide (g = k) = bo
      have HB := Lib.hid hB
      clear hga hgb hka hkb hn hs hnn hss hB
      go_enter Tryz.func49, Tryz.ntmps49
      go_wp2
      go_loopw [5] (fun i wr => SmRel w (.slice A1 n c1) (.slice A2 s c2) (.slice A3 n c3) (.slice A4 s c4) g.1 k.1 n i wr) (fun i _ => n - (intOf i).toNat)
      case atStart => exact ⟨0, Nat.zero_le _, rfl, rfl, (Blk.new w _ _).alloc _, Blk.new' _ (by simp) _ _, ((Up.refl w).alloc _).alloc _⟩
      case round =>
        obtain ⟨x, hx, rfl, ht, b1, b2, hU⟩ := hrel
        have HT := Lib.hid ht
        have q1 := b1.cell
        have q2 := b2.cell
        have l1 := b1.lt
        have l2 := b2.lt
        have B1 := Lib.hid b1
        have B2 := Lib.hid b2
        have HU := Lib.hid hU
        clear ht b1 b2
        by_cases hlt : x < n
        · obtain ⟨p, u1, rfl, ⟨a0, a1, a2, a3⟩, hs1⟩ := (HGA.out.up hU).at_ hlt
          obtain ⟨q, u2, rfl, ⟨e0, e1, e2, e3⟩, hs2⟩ := (HKA.out.up hU).at_ hlt
          have hgx : x < g.1.length := by rw [LN.out]; exact hlt
          have hkx : x < k.1.length := by rw [← HN.out]; exact hlt
          have hw := Lib.hid (fun m => quietW (req_words u1 u2 _ _ (wr.drewN m) (hs1.up ((Up.refl wr).drewN m)) (hs2.up ((Up.refl wr).drewN m))))
          obtain ⟨Au, cu, rfl⟩ := hs1.slice
          obtain ⟨Av, cv, rfl⟩ := hs2.slice
          have hTM := Lib.hid (fun e => take_moreG nd0 HT.out hgx hkx e)
          have hNE := Lib.hid (fun e => ne_getG (x := x) (xs := g.1) (ys := k.1) nd0 e)
          have ap := lt_of_cell a0
          have aq := lt_of_cell e0
          clear hU hs1 hs2 hgx hkx
          change Hid (∀ m, Calls Tryz.prog 51 #[.slice Au (g.1.getD x nd0).2.length cu, .slice Av (k.1.getD x nd0).2.length cv] (wr.drewN m) fun e w' => e = .returned (.bool (decide ((g.1.getD x nd0).2 = (k.1.getD x nd0).2))) ∧ ∃ n, w' = wr.drewN n) at hw
          generalize g.1.getD x nd0 = nd at *
          generalize k.1.getD x nd0 = md at *
          obtain ⟨⟨t, l, m⟩, f⟩ := nd
          obtain ⟨⟨t', l', m'⟩, f'⟩ := md
          simp only [] at a0 a1 a2 a3 e0 e1 e2 e3 hw hTM hNE
          have hne := ne_head t l m t' l' m'
          generalize f.length = lf at *
          generalize f'.length = lf' at *
          by_cases hf : f = f'
          · rw [decide_eq_true hf] at hw
            by_cases hh : t = t' ∧ l = l' ∧ m = m'
            · obtain ⟨rfl, rfl, rfl⟩ := hh
              rw [show (!decide (t = t ∧ l = l ∧ m = m)) = false from by simp] at hne
              have HTM := Lib.hid (hTM.out (by rw [hf]))
              clear hTM hNE hf
              go_wp2
              go_quiet ((go_at_call 51; with_reducible exact hw.out _))
              go_wp2
              go_quiet (fail)
              go_wp2
              refine ⟨⟨x + 1, by omega, by go_num, HTM.out, B1.out.up ((Up.refl wr).drewN _), B2.out.up ((Up.refl wr).drewN _), HU.out.drewN _⟩, by simp [intOf]; omega⟩
            · rw [show (!decide (t = t' ∧ l = l' ∧ m = m')) = true from by rw [decide_eq_false hh]; rfl] at hne
              have HNE := Lib.hid (hNE.out (fun e => hh (by
                simp only [Prod.mk.injEq] at e
                exact e.1)))
              clear hTM hNE hf hh
              go_wp2
              go_quiet ((go_at_call 51; with_reducible exact hw.out _))
              go_wp2
              go_quiet (fail)
              go_wp2
              go_ret
              exact ⟨show Ending.returned (.bool false) = .returned (.bool bo) from by rw [← HB.out, decide_eq_false (fun e => HNE.out (by rw [e]))], (HU.out.drewN _).drewN _⟩
          · rw [decide_eq_false hf] at hw
            have HNE := Lib.hid (hNE.out (fun e => hf (by
                simp only [Prod.mk.injEq] at e
                exact e.2)))
            clear hTM hNE hf hne
            go_wp2
            go_quiet ((go_at_call 51; with_reducible exact hw.out _))
            go_wp2
            go_quiet (fail)
            go_wp2
            go_ret
            exact ⟨show Ending.returned (.bool false) = .returned (.bool bo) from by rw [← HB.out, decide_eq_false (fun e => HNE.out (by rw [e]))], (HU.out.drewN _).drewN _⟩
        · obtain rfl : n = x := by omega
          have HE : Hid (g.1 = k.1) := Lib.hid (by
            have h := HT.out
            rw [List.take_of_length_le (by rw [LN.out]; exact Nat.le_refl _), List.take_of_length_le (by rw [← HN.out]; exact Nat.le_refl _)] at h
            exact h)
          clear hU
          go_wp2
          go_loopw [7] (fun i wr => SsRel w (.slice A1 n c1) (.slice A2 s c2) (.slice A3 n c3) (.slice A4 s c4) g.2 k.2 s i wr) (fun i _ => s - (intOf i).toNat)
          case atStart => exact ⟨0, Nat.zero_le _, rfl, rfl, B1.out, B2.out, HU.out⟩
          case round =>
            clear q1 q2 l1 l2 B1 B2 HU HT
            obtain ⟨x, hx, rfl, ht, b1, b2, hU⟩ := hrel
            have HT := Lib.hid ht
            have q1 := b1.cell
            have q2 := b2.cell
            have l1 := b1.lt
            have l2 := b2.lt
            have B1 := Lib.hid b1
            have B2 := Lib.hid b2
            have HU := Lib.hid hU
            clear ht b1 b2
            by_cases hlt : x < s
            · obtain ⟨p, u1, rfl, a0, hs1⟩ := (HGB.out.up hU).at_ hlt
              obtain ⟨q, u2, rfl, e0, hs2⟩ := (HKB.out.up hU).at_ hlt
              have hgx : x < g.2.length := by rw [LS.out]; exact hlt
              have hkx : x < k.2.length := by rw [← HS.out]; exact hlt
              rename World => w5
              have hw := Lib.hid (fun m => quietW (req_ints u1 u2 _ _ (w5.drewN m) (hs1.up ((Up.refl w5).drewN m)) (hs2.up ((Up.refl w5).drewN m))))
              obtain ⟨Au, cu, rfl⟩ := hs1.slice
              obtain ⟨Av, cv, rfl⟩ := hs2.slice
              have hTM := Lib.hid (fun e => take_moreG [] HT.out hgx hkx e)
              have hNE := Lib.hid (fun e => ne_getG (x := x) (xs := g.2) (ys := k.2) [] e)
              clear hU hs1 hs2 hgx hkx
              generalize g.2.getD x [] = f at *
              generalize k.2.getD x [] = f' at *
              generalize f.length = lf at *
              generalize f'.length = lf' at *
              by_cases hf : f = f'
              · rw [decide_eq_true hf] at hw
                have HTM := Lib.hid (hTM.out hf)
                clear hTM hNE hf
                go_wp2
                go_quiet ((go_at_call 30; with_reducible exact hw.out _))
                go_wp2
                refine ⟨⟨x + 1, by omega, by go_num, HTM.out, B1.out.up ((Up.refl w5).drewN _), B2.out.up ((Up.refl w5).drewN _), HU.out.drewN _⟩, by simp [intOf]; omega⟩
              · rw [decide_eq_false hf] at hw
                have HNE := Lib.hid (hNE.out hf)
                clear hTM hNE hf
                go_wp2
                go_quiet ((go_at_call 30; with_reducible exact hw.out _))
                go_wp2
                go_ret
                exact ⟨show Ending.returned (.bool false) = .returned (.bool bo) from by rw [← HB.out, decide_eq_false (fun e => HNE.out (by rw [e]))], HU.out.drewN _⟩
            · obtain rfl : s = x := by omega
              have h2 : g.2 = k.2 := by
                have h := HT.out
                rw [List.take_of_length_le (by rw [LS.out]; exact Nat.le_refl _), List.take_of_length_le (by rw [← HS.out]; exact Nat.le_refl _)] at h
                exact h
              have HE2 := Lib.hid h2
              clear hU h2
              go_wp2
              go_ret
              exact ⟨show Ending.returned (.bool true) = .returned (.bool bo) from by rw [← HB.out, decide_eq_true (Prod.ext HE.out HE2.out)], HU.out⟩
    · rw [decide_eq_false (fun e => hs (by rw [e]))]
      have hb0 : ((g.1.length : Int) != (k.1.length : Int)) = false := bne_eq_false_iff_eq.2 (by omega)
      have hb : ((g.2.length : Int) != (k.2.length : Int)) = true := bne_iff_ne.2 (by omega)
      clear hga hgb hka hkb hs hn HGA HGB HKA HKB
      generalize g.2.length = s at *
      generalize k.2.length = s' at *
      generalize g.1.length = n at *
      generalize k.1.length = n' at *
      go_enter Tryz.func49, Tryz.ntmps49
      go_wp2
      go_ret
      exact ⟨rfl, ((Up.refl w).alloc _).alloc _⟩
  · rw [decide_eq_false (fun e => hn (by rw [e]))]
    have hb0 : ((g.1.length : Int) != (k.1.length : Int)) = true := bne_iff_ne.2 (by omega)
    clear hga hgb hka hkb hn HGA HGB HKA HKB
    generalize g.2.length = s at *
    generalize k.2.length = s' at *
    generalize g.1.length = n at *
    generalize k.1.length = n' at *
    go_enter Tryz.func49, Tryz.ntmps49
    go_wp2
    go_ret
    exact ⟨rfl, ((Up.refl w).alloc _).alloc _⟩

end Go.Proofs.YtddoljfkbkbfjaaGreat.G
/-! Of stage 15 -/
namespace Go.Proofs.YtddoljfkbkbfjaaGreat.G
open Go.Joins Go.ChangeShapes Go.WideShapes Go.ChangeAt Go.RowKit Go.Deep Go.Shelf Go.Maps
set_option linter.unusedVariables false
set_option linter.unusedSimpArgs false

/-- An object's head. -/
def okHd (h : Int × Int × Int) : Bool := decide (rte h.1 h.2.1 h.2.2 = 0) && decide (h.1 ≠ 255)
/-- Where a head's pointers are. -/
abbrev ptl (n : Nd) : List Nat := ptk n.1.2.1 n.1.2.2 n.1.2.1.toNat
def ndB (len : Nat) (n : Nd) : Bool := okHd n.1 && (decide ((n.2.length : Int) = n.1.2.1) && (ptl n).all fun i => decide (n.2.getD i 0 ≤ (len : Int)))
def rowB (len : Nat) (row : List Int) : Bool := row.all fun h => decide (0 ≤ h) && decide (h ≤ (len : Int))
def rgB (g : Gr) : Bool := g.1.all (ndB g.1.length) && g.2.all (rowB g.1.length)
theorem all_take {α : Type} {p : α → Bool} {L : List α} {x : Nat} (d : α) (h : x < L.length) : (L.take (x + 1)).all p = ((L.take x).all p && p (L.getD x d)) := by
  rw [List.take_succ_eq_append_getElem h, List.all_append]
  simp [List.getD, List.getElem?_eq_getElem h]
theorem all_no {α : Type} {p : α → Bool} {L : List α} {x : Nat} (d : α) (h : x < L.length) (k : p (L.getD x d) = false) : L.all p = false := by
  have hm : L.getD x d ∈ L := by simp [List.getD, List.getElem?_eq_getElem h]
  cases e : L.all p
  · rfl
  · rw [List.all_eq_true.1 e _ hm] at k; cases k
theorem all_end {α : Type} {p : α → Bool} {L : List α} {n : Nat} (hn : L.length = n) (h : (L.take n).all p = true) : L.all p = true := by
  rw [List.take_of_length_le (by omega)] at h
  exact h
theorem ptk_lt {l m : Int} {k i : Nat} (h : i ∈ ptk l m k) : i < k := by
  unfold ptk at h
  have := (List.mem_filter.1 h).1
  simpa using this
theorem ptl_len (n : Nd) : (ptl n).length ≤ n.1.2.1.toNat := ptk_len _ _ _
/-- A row of places, as it is read. -/
theorem loi_at {w : World} {n₀ : Nat} {v : Value} {xs : List Nat} (h : Loi w n₀ v xs) : ∃ A c, v = .slice A xs.length c ∧ ∀ w', Up w w' → ∀ y, y < xs.length → ∃ p, A = some p ∧ w'.cell? (p.add y) = some (.int .i64 (xs.getD y 0 : Nat)) := by
  obtain ⟨A, c, rfl⟩ := own_slice h
  obtain ⟨-, -, -, -, hr⟩ := rv_of_own h (by simp)
  refine ⟨A, c, rfl, fun w' u y hy => ?_⟩
  obtain ⟨p, e, hc⟩ := (hr.up u).at_ (j := y) (by rw [List.length_map]; exact hy)
  refine ⟨p, e, ?_⟩
  rw [hc]
  simp [List.getD, List.getElem?_eq_getElem hy]
def R1 (w : World) (va vb : Value) (g : Gr) (n : Nat) (i : Value) (wr : World) : Prop := ∃ x : Nat, x ≤ n ∧ i = .int .i64 x ∧ (g.1.take x).all (ndB n) = true ∧ Blk wr w.heap.size 49 #[va, vb] ∧ Up w wr
def R2 (w w5 : World) (va vb : Value) (nd : Nd) (u : Value) (n N : Nat) (i : Value) (wr : World) : Prop := ∃ y : Nat, y ≤ (ptl nd).length ∧ i = .int .i64 y ∧ ((ptl nd).take y).all (fun i => decide (nd.2.getD i 0 ≤ (n : Int))) = true ∧ Blk wr w.heap.size 49 #[va, vb] ∧ Blk wr N 89 #[.int .i64 nd.1.1, .int .i64 nd.1.2.1, .int .u64 nd.1.2.2, u] ∧ Up w wr ∧ Up w5 wr
def R3 (w : World) (va vb : Value) (g : Gr) (n s : Nat) (i : Value) (wr : World) : Prop := ∃ x : Nat, x ≤ s ∧ i = .int .i64 x ∧ (g.2.take x).all (rowB n) = true ∧ Blk wr w.heap.size 49 #[va, vb] ∧ Up w wr
def R4 (w : World) (va vb : Value) (row : List Int) (n : Nat) (i : Value) (wr : World) : Prop := ∃ y : Nat, y ≤ row.length ∧ i = .int .i64 y ∧ (row.take y).all (fun h => decide (0 ≤ h) && decide (h ≤ (n : Int))) = true ∧ Blk wr w.heap.size 49 #[va, vb] ∧ Up w wr
theorem nd_no {len : Nat} {nd : Nd} (h : rte nd.1.1 nd.1.2.1 nd.1.2.2 ≠ 0 ∨ nd.1.1 = 255 ∨ (nd.2.length : Int) ≠ nd.1.2.1) : ndB len nd = false := by
  unfold ndB okHd
  rcases h with h | h | h
  · rw [decide_eq_false h]; rfl
  · rw [h]; simp
  · rw [decide_eq_false h]; simp
theorem rte_l {t l m : Int} (h : rte t l m = 0) (ht : t ≠ 255) : 0 ≤ l ∧ l ≤ 16 := by
  unfold rte at h
  split at h
  · omega
  · split at h
    · omega
    · omega

end Go.Proofs.YtddoljfkbkbfjaaGreat.G
