/- The document's Same of graphs (dovecoteref15.Same): contract. -/
import Derived.Test.YtlocllcijncllaaRf
import Derived.Test.YtlocllcijncllaaGa
namespace Go.Proofs.Ytlocllcijncllaa
open Go.Joins Go.ChangeShapes Go.WideShapes Go.ChangeAt Go.RowKit Go.Deep Go.Shelf Go.Maps
set_option linter.unusedVariables false
set_option linter.unusedSimpArgs false

theorem ne_head (a b c x y z : Int) (w : World) : (binOp .neq 28 (.agg #[.int .i64 a, .int .i64 b, .int .u64 c]) (.agg #[.int .i64 x, .int .i64 y, .int .u64 z])).run Try.prog w = .ok (.bool (!decide (a = x ∧ b = y ∧ c = z))) w := by
  rw [run_neq_struct, run_equalIn_agg _ _ _ _ _ (by rw [fieldsOf_of Try.underlying28]; exact Try.underlying28) (by kernel_rfl), fieldsOf_of Try.underlying28]
  simp [Op.eqFields, go_sem]
  by_cases h : a = x <;> by_cases k : b = y <;> by_cases l : c = z <;> simp [h, k, l]
theorem take_moreG {α : Type} {xs ys : List α} {x : Nat} (d : α) (h : xs.take x = ys.take x) (h1 : x < xs.length) (h2 : x < ys.length) (e : xs.getD x d = ys.getD x d) : xs.take (x + 1) = ys.take (x + 1) := by
  rw [List.take_succ_eq_append_getElem h1, List.take_succ_eq_append_getElem h2, h]
  simp [List.getD, List.getElem?_eq_getElem h1, List.getElem?_eq_getElem h2] at e
  rw [e]
theorem ne_getG {α : Type} {xs ys : List α} {x : Nat} (d : α) (e : xs.getD x d ≠ ys.getD x d) : xs ≠ ys := fun h => e (by rw [h])
theorem quietW {P : Program} {f : FuncId} {args : Array Value} {v : Value} {w : World} {m : Nat} (h : Calls P f args (w.drewN m) fun e w' => e = .returned v ∧ ∃ n, w' = (w.drewN m).drewN n) : Calls P f args (w.drewN m) fun e w' => e = .returned v ∧ ∃ n, w' = w.drewN n :=
  h.mono fun e w' ⟨h1, k, h2⟩ => ⟨h1, m + k, by rw [h2, World.drewN_drewN]⟩
abbrev nd0 : Nd := ((0, 0, 0), [])
def SmRel (w : World) (va vb vc vd : Value) (ns ms : List Nd) (n : Nat) (i : Value) (wr : World) : Prop := ∃ x : Nat, x ≤ n ∧ i = .int .i64 x ∧ ns.take x = ms.take x ∧ Blk wr w.heap.size 25 #[va, vb] ∧ Blk wr (w.heap.size + 1) 25 #[vc, vd] ∧ Up w wr
def SsRel (w : World) (va vb vc vd : Value) (L K : List (List Int)) (n : Nat) (i : Value) (wr : World) : Prop := ∃ x : Nat, x ≤ n ∧ i = .int .i64 x ∧ L.take x = K.take x ∧ Blk wr w.heap.size 25 #[va, vb] ∧ Blk wr (w.heap.size + 1) 25 #[vc, vd] ∧ Up w wr
set_option maxRecDepth 100000 in
set_option maxHeartbeats 4000000 in
theorem rsame_any (u v : Value) (g k : Gr) (w : World) (hg : GrV w u g) (hk : GrV w v k) : Calls Try.prog 14 #[u, v] w fun e w' => e = .returned (.bool (decide (g = k))) ∧ Up w w' := by
  obtain ⟨ga, gb, rfl, hga, hgb⟩ := hg
  obtain ⟨ka, kb, rfl, hka, hkb⟩ := hk
  have HGA := Lib.hid hga
  have HGB := Lib.hid hgb
  have HKA := Lib.hid hka
  have HKB := Lib.hid hkb
  obtain ⟨A1, c1, rfl, m1⟩ := hga.slice
  obtain ⟨A2, c2, rfl, m2⟩ := hgb.slice
  obtain ⟨A3, c3, rfl, m3⟩ := hka.slice
  obtain ⟨A4, c4, rfl, m4⟩ := hkb.slice
  unfold maxLen at m1 m2 m3 m4
  by_cases hn : g.1.length = k.1.length
  · by_cases hs : g.2.length = k.2.length
    · have HN := Lib.hid hn
      have HS := Lib.hid hs
      rw [← hn] at HKA ⊢
      rw [← hs] at HKB ⊢
      generalize hnn : g.1.length = n at *
      generalize hss : g.2.length = s at *
      have LN := Lib.hid hnn
      have LS := Lib.hid hss
      generalize hB : decide (g = k) = bo
      have HB := Lib.hid hB
      clear hga hgb hka hkb hn hs hnn hss hB
      go_enter Try.func14, Try.ntmps14
      go_wp2
      go_loopw [5] (fun i wr => SmRel w (.slice A1 n c1) (.slice A2 s c2) (.slice A3 n c3) (.slice A4 s c4) g.1 k.1 n i wr) (fun i _ => n - (intOf i).toNat)
      case atStart => exact ⟨0, Nat.zero_le _, rfl, rfl, (Blk.new w _ _).alloc _, Blk.new' _ (by simp) _ _, ((Up.refl w).alloc _).alloc _⟩
      case round =>
        obtain ⟨x, hx, rfl, ht, b1, b2, hU⟩ := hrel
        have HT := Lib.hid ht
        have q1 := b1.cell
        have q2 := b2.cell
        have l1 := b1.lt
        have l2 := b2.lt
        have B1 := Lib.hid b1
        have B2 := Lib.hid b2
        have HU := Lib.hid hU
        clear ht b1 b2
        by_cases hlt : x < n
        · obtain ⟨p, u1, rfl, ⟨a0, a1, a2, a3⟩, hs1⟩ := (HGA.out.up hU).at_ hlt
          obtain ⟨q, u2, rfl, ⟨e0, e1, e2, e3⟩, hs2⟩ := (HKA.out.up hU).at_ hlt
          have hgx : x < g.1.length := by rw [LN.out]; exact hlt
          have hkx : x < k.1.length := by rw [← HN.out]; exact hlt
          have hw := Lib.hid (fun m => quietW (req_words u1 u2 _ _ (wr.drewN m) (hs1.up ((Up.refl wr).drewN m)) (hs2.up ((Up.refl wr).drewN m))))
          obtain ⟨Au, cu, rfl⟩ := hs1.slice
          obtain ⟨Av, cv, rfl⟩ := hs2.slice
          have hTM := Lib.hid (fun e => take_moreG nd0 HT.out hgx hkx e)
          have hNE := Lib.hid (fun e => ne_getG (x := x) (xs := g.1) (ys := k.1) nd0 e)
          have ap := lt_of_cell a0
          have aq := lt_of_cell e0
          clear hU hs1 hs2 hgx hkx
          change Hid (∀ m, Calls Try.prog 28 #[.slice Au (g.1.getD x nd0).2.length cu, .slice Av (k.1.getD x nd0).2.length cv] (wr.drewN m) fun e w' => e = .returned (.bool (decide ((g.1.getD x nd0).2 = (k.1.getD x nd0).2))) ∧ ∃ n, w' = wr.drewN n) at hw
          generalize g.1.getD x nd0 = nd at *
          generalize k.1.getD x nd0 = md at *
          obtain ⟨⟨t, l, m⟩, f⟩ := nd
          obtain ⟨⟨t', l', m'⟩, f'⟩ := md
          simp only [] at a0 a1 a2 a3 e0 e1 e2 e3 hw hTM hNE
          have hne := ne_head t l m t' l' m'
          generalize f.length = lf at *
          generalize f'.length = lf' at *
          by_cases hf : f = f'
          · rw [decide_eq_true hf] at hw
            by_cases hh : t = t' ∧ l = l' ∧ m = m'
            · obtain ⟨rfl, rfl, rfl⟩ := hh
              rw [show (!decide (t = t ∧ l = l ∧ m = m)) = false from by simp] at hne
              have HTM := Lib.hid (hTM.out (by rw [hf]))
              clear hTM hNE hf
              go_wp2
              go_quiet ((go_at_call 28; with_reducible exact hw.out _))
              go_wp2
              go_quiet (fail)
              go_wp2
              refine ⟨⟨x + 1, by omega, by go_num, HTM.out, B1.out.up ((Up.refl wr).drewN _), B2.out.up ((Up.refl wr).drewN _), HU.out.drewN _⟩, by simp [intOf]; omega⟩
            · rw [show (!decide (t = t' ∧ l = l' ∧ m = m')) = true from by rw [decide_eq_false hh]; rfl] at hne
              have HNE := Lib.hid (hNE.out (fun e => hh (by
                simp only [Prod.mk.injEq] at e
                exact e.1)))
              clear hTM hNE hf hh
              go_wp2
              go_quiet ((go_at_call 28; with_reducible exact hw.out _))
              go_wp2
              go_quiet (fail)
              go_wp2
              go_ret
              exact ⟨show Ending.returned (.bool false) = .returned (.bool bo) from by rw [← HB.out, decide_eq_false (fun e => HNE.out (by rw [e]))], (HU.out.drewN _).drewN _⟩
          · rw [decide_eq_false hf] at hw
            have HNE := Lib.hid (hNE.out (fun e => hf (by
                simp only [Prod.mk.injEq] at e
                exact e.2)))
            clear hTM hNE hf hne
            go_wp2
            go_quiet ((go_at_call 28; with_reducible exact hw.out _))
            go_wp2
            go_quiet (fail)
            go_wp2
            go_ret
            exact ⟨show Ending.returned (.bool false) = .returned (.bool bo) from by rw [← HB.out, decide_eq_false (fun e => HNE.out (by rw [e]))], (HU.out.drewN _).drewN _⟩
        · obtain rfl : n = x := by omega
          have HE : Hid (g.1 = k.1) := Lib.hid (by
            have h := HT.out
            rw [List.take_of_length_le (by rw [LN.out]; exact Nat.le_refl _), List.take_of_length_le (by rw [← HN.out]; exact Nat.le_refl _)] at h
            exact h)
          clear hU
          go_wp2
          go_loopw [7] (fun i wr => SsRel w (.slice A1 n c1) (.slice A2 s c2) (.slice A3 n c3) (.slice A4 s c4) g.2 k.2 s i wr) (fun i _ => s - (intOf i).toNat)
          case atStart => exact ⟨0, Nat.zero_le _, rfl, rfl, B1.out, B2.out, HU.out⟩
          case round =>
            clear q1 q2 l1 l2 B1 B2 HU HT
            obtain ⟨x, hx, rfl, ht, b1, b2, hU⟩ := hrel
            have HT := Lib.hid ht
            have q1 := b1.cell
            have q2 := b2.cell
            have l1 := b1.lt
            have l2 := b2.lt
            have B1 := Lib.hid b1
            have B2 := Lib.hid b2
            have HU := Lib.hid hU
            clear ht b1 b2
            by_cases hlt : x < s
            · obtain ⟨p, u1, rfl, a0, hs1⟩ := (HGB.out.up hU).at_ hlt
              obtain ⟨q, u2, rfl, e0, hs2⟩ := (HKB.out.up hU).at_ hlt
              have hgx : x < g.2.length := by rw [LS.out]; exact hlt
              have hkx : x < k.2.length := by rw [← HS.out]; exact hlt
              rename World => w5
              have hw := Lib.hid (fun m => quietW (req_ints u1 u2 _ _ (w5.drewN m) (hs1.up ((Up.refl w5).drewN m)) (hs2.up ((Up.refl w5).drewN m))))
              obtain ⟨Au, cu, rfl⟩ := hs1.slice
              obtain ⟨Av, cv, rfl⟩ := hs2.slice
              have hTM := Lib.hid (fun e => take_moreG [] HT.out hgx hkx e)
              have hNE := Lib.hid (fun e => ne_getG (x := x) (xs := g.2) (ys := k.2) [] e)
              clear hU hs1 hs2 hgx hkx
              generalize g.2.getD x [] = f at *
              generalize k.2.getD x [] = f' at *
              generalize f.length = lf at *
              generalize f'.length = lf' at *
              by_cases hf : f = f'
              · rw [decide_eq_true hf] at hw
                have HTM := Lib.hid (hTM.out hf)
                clear hTM hNE hf
                go_wp2
                go_quiet ((go_at_call 29; with_reducible exact hw.out _))
                go_wp2
                refine ⟨⟨x + 1, by omega, by go_num, HTM.out, B1.out.up ((Up.refl w5).drewN _), B2.out.up ((Up.refl w5).drewN _), HU.out.drewN _⟩, by simp [intOf]; omega⟩
              · rw [decide_eq_false hf] at hw
                have HNE := Lib.hid (hNE.out hf)
                clear hTM hNE hf
                go_wp2
                go_quiet ((go_at_call 29; with_reducible exact hw.out _))
                go_wp2
                go_ret
                exact ⟨show Ending.returned (.bool false) = .returned (.bool bo) from by rw [← HB.out, decide_eq_false (fun e => HNE.out (by rw [e]))], HU.out.drewN _⟩
            · obtain rfl : s = x := by omega
              have h2 : g.2 = k.2 := by
                have h := HT.out
                rw [List.take_of_length_le (by rw [LS.out]; exact Nat.le_refl _), List.take_of_length_le (by rw [← HS.out]; exact Nat.le_refl _)] at h
                exact h
              have HE2 := Lib.hid h2
              clear hU h2
              go_wp2
              go_ret
              exact ⟨show Ending.returned (.bool true) = .returned (.bool bo) from by rw [← HB.out, decide_eq_true (Prod.ext HE.out HE2.out)], HU.out⟩
    · rw [decide_eq_false (fun e => hs (by rw [e]))]
      have hb0 : ((g.1.length : Int) != (k.1.length : Int)) = false := bne_eq_false_iff_eq.2 (by omega)
      have hb : ((g.2.length : Int) != (k.2.length : Int)) = true := bne_iff_ne.2 (by omega)
      clear hga hgb hka hkb hs hn HGA HGB HKA HKB
      generalize g.2.length = s at *
      generalize k.2.length = s' at *
      generalize g.1.length = n at *
      generalize k.1.length = n' at *
      go_enter Try.func14, Try.ntmps14
      go_wp2
      go_ret
      exact ⟨rfl, ((Up.refl w).alloc _).alloc _⟩
  · rw [decide_eq_false (fun e => hn (by rw [e]))]
    have hb0 : ((g.1.length : Int) != (k.1.length : Int)) = true := bne_iff_ne.2 (by omega)
    clear hga hgb hka hkb hn HGA HGB HKA HKB
    generalize g.2.length = s at *
    generalize k.2.length = s' at *
    generalize g.1.length = n at *
    generalize k.1.length = n' at *
    go_enter Try.func14, Try.ntmps14
    go_wp2
    go_ret
    exact ⟨rfl, ((Up.refl w).alloc _).alloc _⟩
end Go.Proofs.Ytlocllcijncllaa
