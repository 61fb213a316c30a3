/- graph.Same: contract. -/
import Derived.Test.YtanhhkdoejnpiaaGreatGf
/-! Of stage 15 -/
namespace Go.Proofs.YtanhhkdoejnpiaaGreat.G
open Go.Joins Go.ChangeShapes Go.WideShapes Go.ChangeAt Go.RowKit Go.Deep Go.Shelf Go.Maps
set_option linter.unusedVariables false
set_option linter.unusedSimpArgs false

def EqR {α : Type} (w : World) (xs ys : List α) (n : Nat) (i : Value) (wr : World) : Prop := ∃ x : Nat, x ≤ n ∧ i = .int .i64 x ∧ xs.take x = ys.take x ∧ Up w wr
set_option maxRecDepth 100000 in
set_option maxHeartbeats 2000000 in
theorem equal_u (u v : Value) (xs ys : List Int) (w : World) (hx : Sl .u64 w u xs) (hy : Sl .u64 w v ys) : Calls Tryz.prog 94 #[u, v] w fun e w' => e = .returned (.bool (decide (xs = ys))) ∧ Up w w' := by
  have HX := Lib.hid hx
  have HY := Lib.hid hy
  have m1 := hx.max
  have m2 := hy.max
  unfold maxLen at m1 m2
  obtain ⟨A, c, rfl⟩ := hx.slice
  obtain ⟨B, d, rfl⟩ := hy.slice
  generalize hn : xs.length = n at *
  generalize hk : ys.length = k at *
  have Lx := Lib.hid hn
  have Ly := Lib.hid hk
  generalize hB : decide (xs = ys) = bo
  have HB := Lib.hid hB
  clear hx hy hB hn hk
  by_cases h : n = k
  · subst h
    go_enter Tryz.func94, Tryz.ntmps94
    go_wp2
    go_loopw [13] (fun i wr => EqR w xs ys n i wr) (fun i _ => n - (intOf i).toNat)
    case atStart => exact ⟨0, Nat.zero_le _, rfl, rfl, Up.refl _⟩
    case round =>
      obtain ⟨x, hx, rfl, ht, U⟩ := hrel
      have HT := Lib.hid ht
      clear ht
      by_cases hlt : x < n
      · obtain ⟨p, rfl, hcp⟩ := (HX.out.up U).at_ hlt
        obtain ⟨q, rfl, hcq⟩ := (HY.out.up U).at_ hlt
        by_cases e : xs.getD x 0 = ys.getD x 0
        · have E := Lib.hid e
          rw [← e] at hcq
          generalize xs.getD x 0 = u at hcp hcq
          clear e
          go_wp2
          go_region
          all_goals
            go_wp2
            refine ⟨⟨x + 1, by omega, by go_num, take_moreG 0 HT.out (by rw [Lx.out]; exact hlt) (by rw [Ly.out]; exact hlt) E.out, U.drew⟩, by simp [intOf]; omega⟩
        · have E := Lib.hid e
          have hne : (xs.getD x 0 != ys.getD x 0) = true := bne_iff_ne.mpr e
          generalize xs.getD x 0 = u at hcp hne
          generalize ys.getD x 0 = v at hcq hne
          clear e
          go_wp2
          go_region
          all_goals
            go_wp2
            go_ret
            exact ⟨show Ending.returned (.bool false) = .returned (.bool bo) from by rw [← HB.out, decide_eq_false (ne_getG 0 E.out)], U.drew⟩
      · obtain rfl : n = x := by omega
        go_wp2
        go_ret
        have h := HT.out
        rw [List.take_of_length_le (by rw [Lx.out]; exact Nat.le_refl _), List.take_of_length_le (by rw [Ly.out]; exact Nat.le_refl _)] at h
        exact ⟨show Ending.returned (.bool true) = .returned (.bool bo) from by rw [← HB.out, decide_eq_true h], U⟩
  · have hb : ((n : Int) != (k : Int)) = true := bne_iff_ne.mpr (by omega)
    have HNO : Hid (decide (xs = ys) = false) := Lib.hid (decide_eq_false (fun e => h (by rw [← Lx.out, ← Ly.out, e])))
    clear h
    go_enter Tryz.func94, Tryz.ntmps94
    go_wp2
    go_ret
    exact ⟨show Ending.returned (.bool false) = .returned (.bool bo) from by rw [← HB.out, HNO.out], Up.refl _⟩
set_option maxRecDepth 100000 in
set_option maxHeartbeats 2000000 in
theorem equal_i (u v : Value) (xs ys : List Int) (w : World) (hx : Sl .i64 w u xs) (hy : Sl .i64 w v ys) : Calls Tryz.prog 96 #[u, v] w fun e w' => e = .returned (.bool (decide (xs = ys))) ∧ Up w w' := by
  have HX := Lib.hid hx
  have HY := Lib.hid hy
  have m1 := hx.max
  have m2 := hy.max
  unfold maxLen at m1 m2
  obtain ⟨A, c, rfl⟩ := hx.slice
  obtain ⟨B, d, rfl⟩ := hy.slice
  generalize hn : xs.length = n at *
  generalize hk : ys.length = k at *
  have Lx := Lib.hid hn
  have Ly := Lib.hid hk
  generalize hB : decide (xs = ys) = bo
  have HB := Lib.hid hB
  clear hx hy hB hn hk
  by_cases h : n = k
  · subst h
    go_enter Tryz.func96, Tryz.ntmps96
    go_wp2
    go_loopw [13] (fun i wr => EqR w xs ys n i wr) (fun i _ => n - (intOf i).toNat)
    case atStart => exact ⟨0, Nat.zero_le _, rfl, rfl, Up.refl _⟩
    case round =>
      obtain ⟨x, hx, rfl, ht, U⟩ := hrel
      have HT := Lib.hid ht
      clear ht
      by_cases hlt : x < n
      · obtain ⟨p, rfl, hcp⟩ := (HX.out.up U).at_ hlt
        obtain ⟨q, rfl, hcq⟩ := (HY.out.up U).at_ hlt
        by_cases e : xs.getD x 0 = ys.getD x 0
        · have E := Lib.hid e
          rw [← e] at hcq
          generalize xs.getD x 0 = u at hcp hcq
          clear e
          go_wp2
          go_region
          all_goals
            go_wp2
            refine ⟨⟨x + 1, by omega, by go_num, take_moreG 0 HT.out (by rw [Lx.out]; exact hlt) (by rw [Ly.out]; exact hlt) E.out, U.drew⟩, by simp [intOf]; omega⟩
        · have E := Lib.hid e
          have hne : (xs.getD x 0 != ys.getD x 0) = true := bne_iff_ne.mpr e
          generalize xs.getD x 0 = u at hcp hne
          generalize ys.getD x 0 = v at hcq hne
          clear e
          go_wp2
          go_region
          all_goals
            go_wp2
            go_ret
            exact ⟨show Ending.returned (.bool false) = .returned (.bool bo) from by rw [← HB.out, decide_eq_false (ne_getG 0 E.out)], U.drew⟩
      · obtain rfl : n = x := by omega
        go_wp2
        go_ret
        have h := HT.out
        rw [List.take_of_length_le (by rw [Lx.out]; exact Nat.le_refl _), List.take_of_length_le (by rw [Ly.out]; exact Nat.le_refl _)] at h
        exact ⟨show Ending.returned (.bool true) = .returned (.bool bo) from by rw [← HB.out, decide_eq_true h], U⟩
  · have hb : ((n : Int) != (k : Int)) = true := bne_iff_ne.mpr (by omega)
    have HNO : Hid (decide (xs = ys) = false) := Lib.hid (decide_eq_false (fun e => h (by rw [← Lx.out, ← Ly.out, e])))
    clear h
    go_enter Tryz.func96, Tryz.ntmps96
    go_wp2
    go_ret
    exact ⟨show Ending.returned (.bool false) = .returned (.bool bo) from by rw [← HB.out, HNO.out], Up.refl _⟩
/-- A node, by value. -/
abbrev ndv (n : Nd) (u : Value) : Value := .agg #[.int .i64 n.1.1, .int .i64 n.1.2.1, .int .u64 n.1.2.2, u]
theorem eq_head (a b c x y z : Int) (w : World) : (binOp .eql 69 (.agg #[.int .i64 a, .int .i64 b, .int .u64 c]) (.agg #[.int .i64 x, .int .i64 y, .int .u64 z])).run Tryz.prog w = .ok (.bool (decide (a = x ∧ b = y ∧ c = z))) w := by
  rw [run_eql_struct, run_equalIn_agg _ _ _ _ _ (by rw [fieldsOf_of Tryz.underlying69]; exact Tryz.underlying69) (by kernel_rfl), fieldsOf_of Tryz.underlying69]
  simp [Op.eqFields, go_sem]
  by_cases h : a = x <;> by_cases k : b = y <;> by_cases l : c = z <;> simp [h, k, l]
set_option maxRecDepth 100000 in
set_option maxHeartbeats 2000000 in
theorem same1_any (n m : Nd) (u v : Value) (w : World) (hu : Sl .u64 w u n.2) (hv : Sl .u64 w v m.2) : Calls Tryz.prog 93 #[ndv n u, ndv m v] w fun e w' => e = .returned (.bool (decide (n = m))) ∧ Up w w' := by
  obtain ⟨⟨t, l, m1⟩, f⟩ := n
  obtain ⟨⟨t', l', m1'⟩, f'⟩ := m
  have HE := Lib.hid (fun W (k : Up w W) => equal_u u v f f' W (hu.up k) (hv.up k))
  have hq := eq_head t l m1 t' l' m1'
  obtain ⟨A, c, rfl⟩ := hu.slice
  obtain ⟨B, d, rfl⟩ := hv.slice
  have e0 : decide ((((t, l, m1), f) : Nd) = ((t', l', m1'), f')) = (decide (t = t' ∧ l = l' ∧ m1 = m1') && decide (f = f')) := by
    rw [← Bool.decide_and, decide_eq_decide]
    simp only [Prod.mk.injEq]
  rw [e0]
  clear e0 hu hv
  generalize decide (f = f') = bf at *
  generalize decide (t = t' ∧ l = l' ∧ m1 = m1') = bh at *
  change Calls Tryz.prog 93 #[.agg #[.int .i64 t, .int .i64 l, .int .u64 m1, .slice A f.length c], .agg #[.int .i64 t', .int .i64 l', .int .u64 m1', .slice B f'.length d]] w _
  generalize f.length = lf at *
  generalize f'.length = lf' at *
  cases bh with
  | false =>
    go_enter Tryz.func93, Tryz.ntmps93
    go_wp2
    go_ret
    exact ⟨rfl, ((Up.refl w).alloc _).alloc _⟩
  | true =>
    go_enter Tryz.func93, Tryz.ntmps93
    go_wp2_with (fail)
    refine (HE.out _ (((Up.refl w).alloc _).alloc _)).mono ?_
    rintro e w1 ⟨rfl, h1⟩
    go_wp2
    go_ret
    exact ⟨rfl, (((Up.refl w).alloc _).alloc _).trans h1⟩
set_option maxRecDepth 100000 in
set_option maxHeartbeats 4000000 in
theorem eqnodes_any (u v : Value) (xs ys : List Nd) (w : World) (hx : Ns w u xs) (hy : Ns w v ys) : Calls Tryz.prog 92 #[u, v, .func (.func 93) #[] #[]] w fun e w' => e = .returned (.bool (decide (xs = ys))) ∧ Up w w' := by
  have HX := Lib.hid hx
  have HY := Lib.hid hy
  obtain ⟨A, c, rfl, m1⟩ := hx.slice
  obtain ⟨B, d, rfl, m2⟩ := hy.slice
  unfold maxLen at m1 m2
  generalize hn : xs.length = n at *
  generalize hk : ys.length = k at *
  have Lx := Lib.hid hn
  have Ly := Lib.hid hk
  generalize hB : decide (xs = ys) = bo
  have HB := Lib.hid hB
  clear hx hy hB hn hk
  by_cases h : n = k
  · subst h
    go_enter Tryz.func92, Tryz.ntmps92
    go_wp2
    go_loopw [17] (fun i wr => EqR w xs ys n i wr) (fun i _ => n - (intOf i).toNat)
    case atStart => exact ⟨0, Nat.zero_le _, rfl, rfl, Up.refl _⟩
    case round =>
      rename World => W5
      obtain ⟨x, hx, rfl, ht, U⟩ := hrel
      have HT := Lib.hid ht
      have HU := Lib.hid U
      clear ht
      by_cases hlt : x < n
      · obtain ⟨p, u1, rfl, ⟨a0, a1, a2, a3⟩, hs1⟩ := (HX.out.up U).at_ hlt
        obtain ⟨q, u2, rfl, ⟨e0, e1, e2, e3⟩, hs2⟩ := (HY.out.up U).at_ hlt
        have hgx : x < xs.length := by rw [Lx.out]; exact hlt
        have hkx : x < ys.length := by rw [Ly.out]; exact hlt
        have HTM := Lib.hid (fun e => take_moreG nd0 HT.out hgx hkx e)
        have HNE := Lib.hid (fun e => ne_getG (x := x) (xs := xs) (ys := ys) nd0 e)
        have HS := Lib.hid (fun W (k : Up W5 W) => same1_any (xs.getD x nd0) (ys.getD x nd0) u1 u2 W (hs1.up k) (hs2.up k))
        have ap := lt_of_cell a0
        have aq := lt_of_cell e0
        obtain ⟨Au, cu, rfl⟩ := hs1.slice
        obtain ⟨Av, cv, rfl⟩ := hs2.slice
        clear U hs1 hs2 hgx hkx
        generalize xs.getD x nd0 = nd at *
        generalize ys.getD x nd0 = md at *
        obtain ⟨⟨t, l, m⟩, f⟩ := nd
        obtain ⟨⟨t', l', m'⟩, f'⟩ := md
        change Hid (∀ W, Up W5 W → Calls Tryz.prog 93 #[.agg #[.int .i64 t, .int .i64 l, .int .u64 m, .slice Au f.length cu], .agg #[.int .i64 t', .int .i64 l', .int .u64 m', .slice Av f'.length cv]] W fun e w' => e = .returned (.bool (decide ((((t, l, m), f) : Nd) = ((t', l', m'), f')))) ∧ Up W w') at HS
        simp only [] at a0 a1 a2 a3 e0 e1 e2 e3
        generalize f.length = lf at *
        generalize f'.length = lf' at *
        by_cases hq : (((t, l, m), f) : Nd) = ((t', l', m'), f')
        · rw [decide_eq_true hq] at HS
          have HTM := Lib.hid (HTM.out hq)
          clear hq HNE
          go_wp2_with (fail)
          refine (HS.out _ (((Up.refl W5).alloc _).alloc _)).mono ?_
          rintro e w1 ⟨rfl, h1⟩
          go_wp2
          refine ⟨⟨x + 1, by omega, by go_num, HTM.out, HU.out.trans ((((Up.refl W5).alloc _).alloc _).trans h1)⟩, by simp [intOf]; omega⟩
        · rw [decide_eq_false hq] at HS
          have HNO := Lib.hid (HNE.out hq)
          clear hq HTM HNE
          go_wp2_with (fail)
          refine (HS.out _ (((Up.refl W5).alloc _).alloc _)).mono ?_
          rintro e w1 ⟨rfl, h1⟩
          go_wp2
          go_ret
          exact ⟨show Ending.returned (.bool false) = .returned (.bool bo) from by rw [← HB.out, decide_eq_false HNO.out], HU.out.trans ((((Up.refl W5).alloc _).alloc _).trans h1)⟩
      · obtain rfl : n = x := by omega
        go_wp2
        go_ret
        have h := HT.out
        rw [List.take_of_length_le (by rw [Lx.out]; exact Nat.le_refl _), List.take_of_length_le (by rw [Ly.out]; exact Nat.le_refl _)] at h
        exact ⟨show Ending.returned (.bool true) = .returned (.bool bo) from by rw [← HB.out, decide_eq_true h], HU.out⟩
  · have hb : ((n : Int) != (k : Int)) = true := bne_iff_ne.mpr (by omega)
    have HNO : Hid (decide (xs = ys) = false) := Lib.hid (decide_eq_false (fun e => h (by rw [← Lx.out, ← Ly.out, e])))
    clear h
    go_enter Tryz.func92, Tryz.ntmps92
    go_wp2
    go_ret
    exact ⟨show Ending.returned (.bool false) = .returned (.bool bo) from by rw [← HB.out, HNO.out], Up.refl _⟩
set_option maxRecDepth 100000 in
set_option maxHeartbeats 4000000 in
theorem eqrows_any (u v : Value) (xs ys : List (List Int)) (w : World) (hx : Rw .i64 w u xs) (hy : Rw .i64 w v ys) : Calls Tryz.prog 95 #[u, v, .func (.func 96) #[] #[]] w fun e w' => e = .returned (.bool (decide (xs = ys))) ∧ Up w w' := by
  have HX := Lib.hid hx
  have HY := Lib.hid hy
  obtain ⟨A, c, rfl, m1⟩ := hx.slice
  obtain ⟨B, d, rfl, m2⟩ := hy.slice
  unfold maxLen at m1 m2
  generalize hn : xs.length = n at *
  generalize hk : ys.length = k at *
  have Lx := Lib.hid hn
  have Ly := Lib.hid hk
  generalize hB : decide (xs = ys) = bo
  have HB := Lib.hid hB
  clear hx hy hB hn hk
  by_cases h : n = k
  · subst h
    go_enter Tryz.func95, Tryz.ntmps95
    go_wp2
    go_loopw [17] (fun i wr => EqR w xs ys n i wr) (fun i _ => n - (intOf i).toNat)
    case atStart => exact ⟨0, Nat.zero_le _, rfl, rfl, Up.refl _⟩
    case round =>
      rename World => W5
      obtain ⟨x, hx, rfl, ht, U⟩ := hrel
      have HT := Lib.hid ht
      have HU := Lib.hid U
      clear ht
      by_cases hlt : x < n
      · obtain ⟨p, u1, rfl, a0, hs1⟩ := (HX.out.up U).at_ hlt
        obtain ⟨q, u2, rfl, e0, hs2⟩ := (HY.out.up U).at_ hlt
        have hgx : x < xs.length := by rw [Lx.out]; exact hlt
        have hkx : x < ys.length := by rw [Ly.out]; exact hlt
        have HTM := Lib.hid (fun e => take_moreG [] HT.out hgx hkx e)
        have HNE := Lib.hid (fun e => ne_getG (x := x) (xs := xs) (ys := ys) [] e)
        have HS := Lib.hid (equal_i u1 u2 (xs.getD x []) (ys.getD x []) W5 hs1 hs2)
        obtain ⟨Au, cu, rfl⟩ := hs1.slice
        obtain ⟨Av, cv, rfl⟩ := hs2.slice
        clear U hs1 hs2 hgx hkx
        generalize xs.getD x [] = nd at *
        generalize ys.getD x [] = md at *
        by_cases hq : nd = md
        · rw [decide_eq_true hq] at HS
          have HTM := Lib.hid (HTM.out hq)
          generalize nd.length = lf at *
          generalize md.length = lf' at *
          clear hq HNE
          go_wp2_with (fail)
          refine HS.out.mono ?_
          rintro e w1 ⟨rfl, h1⟩
          go_wp2
          refine ⟨⟨x + 1, by omega, by go_num, HTM.out, HU.out.trans h1⟩, by simp [intOf]; omega⟩
        · rw [decide_eq_false hq] at HS
          have HNO := Lib.hid (HNE.out hq)
          generalize nd.length = lf at *
          generalize md.length = lf' at *
          clear hq HTM HNE
          go_wp2_with (fail)
          refine HS.out.mono ?_
          rintro e w1 ⟨rfl, h1⟩
          go_wp2
          go_ret
          exact ⟨show Ending.returned (.bool false) = .returned (.bool bo) from by rw [← HB.out, decide_eq_false HNO.out], HU.out.trans h1⟩
      · obtain rfl : n = x := by omega
        go_wp2
        go_ret
        have h := HT.out
        rw [List.take_of_length_le (by rw [Lx.out]; exact Nat.le_refl _), List.take_of_length_le (by rw [Ly.out]; exact Nat.le_refl _)] at h
        exact ⟨show Ending.returned (.bool true) = .returned (.bool bo) from by rw [← HB.out, decide_eq_true h], HU.out⟩
  · have hb : ((n : Int) != (k : Int)) = true := bne_iff_ne.mpr (by omega)
    have HNO : Hid (decide (xs = ys) = false) := Lib.hid (decide_eq_false (fun e => h (by rw [← Lx.out, ← Ly.out, e])))
    clear h
    go_enter Tryz.func95, Tryz.ntmps95
    go_wp2
    go_ret
    exact ⟨show Ending.returned (.bool false) = .returned (.bool bo) from by rw [← HB.out, HNO.out], Up.refl _⟩
set_option maxRecDepth 100000 in
set_option maxHeartbeats 2000000 in
theorem same_g (u v : Value) (g k : Gr) (w : World) (hg : GrV w u g) (hk : GrV w v k) : Calls Tryz.prog 53 #[u, v] w fun e w' => e = .returned (.bool (decide (g = k))) ∧ Up w w' := by
  obtain ⟨ga, gb, rfl, hga, hgb⟩ := hg
  obtain ⟨ka, kb, rfl, hka, hkb⟩ := hk
  have H1 := Lib.hid (fun W (z : Up w W) => eqnodes_any ga ka g.1 k.1 W (hga.up z) (hka.up z))
  have H2 := Lib.hid (fun W (z : Up w W) => eqrows_any gb kb g.2 k.2 W (hgb.up z) (hkb.up z))
  have e0 : decide (g = k) = (decide (g.1 = k.1) && decide (g.2 = k.2)) := by
    rw [← Bool.decide_and, decide_eq_decide]
    exact ⟨fun e => by rw [e]; exact ⟨rfl, rfl⟩, fun e => Prod.ext e.1 e.2⟩
  rw [e0]
  obtain ⟨A1, c1, rfl, -⟩ := hga.slice
  obtain ⟨A2, c2, rfl, -⟩ := hgb.slice
  obtain ⟨A3, c3, rfl, -⟩ := hka.slice
  obtain ⟨A4, c4, rfl, -⟩ := hkb.slice
  clear hga hgb hka hkb e0
  generalize decide (g.1 = k.1) = b1 at *
  generalize decide (g.2 = k.2) = b2 at *
  generalize g.1.length = n1 at *
  generalize g.2.length = n2 at *
  generalize k.1.length = n3 at *
  generalize k.2.length = n4 at *
  go_enter Tryz.func53, Tryz.ntmps53
  go_wp2_with (fail)
  refine calls_at (fun V1 hV => ?_)
  have kv : Up w V1 := by rw [hV]; exact ((Up.refl w).alloc _).alloc _
  have bG : Blk V1 w.heap.size 30 #[.slice A1 n1 c1, .slice A2 n2 c2] := by rw [hV]; exact (Blk.new w _ _).alloc _
  have bK : Blk V1 (w.heap.size + 1) 30 #[.slice A3 n3 c3, .slice A4 n4 c4] := by rw [hV]; exact Blk.new' _ (by simp) _ _
  have UV := Lib.hid kv
  clear hV
  refine (H1.out V1 kv).mono ?_
  rintro e w1 ⟨rfl, h1⟩
  have q1 := (bG.up h1).cell
  have l1 := (bG.up h1).lt
  have q2 := (bK.up h1).cell
  have l2 := (bK.up h1).lt
  have U1 := Lib.hid (kv.trans h1)
  clear bG bK kv h1
  cases b1 with
  | false =>
    go_wp2
    go_ret
    exact ⟨rfl, U1.out⟩
  | true =>
    go_wp2_with (fail)
    refine (H2.out _ U1.out).mono ?_
    rintro e w2 ⟨rfl, h2⟩
    go_wp2
    go_ret
    exact ⟨rfl, U1.out.trans h2⟩

end Go.Proofs.YtanhhkdoejnpiaaGreat.G
