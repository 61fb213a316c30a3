/- A graph once more, which shares nothing with it (graph.copied): contract. -/
import Derived.Test.YtlocllcijncllaaGc
namespace Go.Proofs.Ytlocllcijncllaa
open Go.Joins Go.ChangeShapes Go.WideShapes Go.ChangeAt Go.RowKit Go.Deep Go.Shelf Go.Maps
set_option linter.unusedVariables false
set_option linter.unusedSimpArgs false

/-- A graph that is all a call's own: its nodes, their fields in one block, the threads' handles, in one block too. -/
structure OwnG (base : Nat) (w : World) (vn vs : Value) (g : Gr) (us us2 : List Value) (BF GS BS : Nat) : Prop where
  nodes : w.ownsRow base 62 4 vn g.1.length (nvs g.1 us)
  flds : Ct .u64 26 base w us (g.1.map (·.2)) BF
  val : vs = .slice (some ⟨GS, 0, none⟩) g.2.length g.2.length
  grid : Blk w GS 47 us2.toArray
  rows : Ct .i64 3 base w us2 g.2 BS
  ge : base ≤ GS
  few : g.2.length ≤ maxLen
theorem OwnG.up {base : Nat} {w w' : World} {vn vs : Value} {g : Gr} {us us2 : List Value} {BF GS BS : Nat} (h : OwnG base w vn vs g us us2 BF GS BS) (u : Up w w') : OwnG base w' vn vs g us us2 BF GS BS :=
  ⟨own_up h.nodes u, h.flds.up u, h.val, h.grid.up u, h.rows.up u, h.ge, h.few⟩
theorem ns_of_own {base : Nat} {w : World} {v : Value} {ns : List Nd} {us : List Value} (h : w.ownsRow base 62 4 v ns.length (nvs ns us)) (hg : Gd .u64 w us (ns.map (·.2))) : NsW w v us ns := by
  obtain ⟨A, c, rfl⟩ := own_slice h
  obtain ⟨_, h2, h3, h4, h5⟩ := rv_of_own h (nvs_len ns us (by rw [hg.1, List.length_map]))
  exact ⟨A, c, rfl, h2, h3, h4, h5, hg⟩
theorem OwnG.ns {base : Nat} {w : World} {vn vs : Value} {g : Gr} {us us2 : List Value} {BF GS BS : Nat} (h : OwnG base w vn vs g us us2 BF GS BS) : NsW w vn us g.1 := ns_of_own h.nodes h.flds.gd
theorem OwnG.rw_ {base : Nat} {w : World} {vn vs : Value} {g : Gr} {us us2 : List Value} {BF GS BS : Nat} (h : OwnG base w vn vs g us us2 BF GS BS) : RwW .i64 w vs us2 g.2 :=
  ⟨_, _, h.val, Nat.le_refl _, h.few, fun q => (by cases q), rv_of_blk h.grid (fun j v hj => by simpa using hj), h.rows.gd⟩
theorem OwnG.gr {base : Nat} {w : World} {vn vs : Value} {g : Gr} {us us2 : List Value} {BF GS BS : Nat} (h : OwnG base w vn vs g us us2 BF GS BS) : GrV w (.agg #[vn, vs]) g := ⟨_, _, rfl, ⟨us, h.ns⟩, us2, h.rw_⟩

theorem nvs_set : ∀ (ns : List Nd) (us : List Value) (x : Nat) (u : Value), us.length = ns.length → nvs ns (us.set x u) = (nvs ns us).set (x * 4 + 3) u
  | [], us, x, u, _ => rfl
  | n :: r, [], x, u, h => by cases h
  | n :: r, v :: us, 0, u, h => by simp [nvs]
  | n :: r, v :: us, x + 1, u, h => by
    rw [show (x + 1) * 4 + 3 = x * 4 + 3 + 1 + 1 + 1 + 1 from by omega]
    simp [nvs, nvs_set r us x u (by simpa using h)]
theorem grownBy_setAt (w : World) (G i : Nat) (u : Value) : w.grownBy (w.setCell ⟨G, i, none⟩ u) (some G) :=
  ⟨rfl, rfl, rfl, by simp, fun k _ hk => heap_setCell_other w ⟨G, i, none⟩ k u (fun e => hk (by simp [e]))⟩
theorem own_far {w : World} {n₀ : Nat} {e t : TypeId} {size n b : Nat} {v : Value} {xs : List Value} {cs : Array Value} (h : w.ownsRow n₀ e size v n xs) (hb : Blk w b t cs) (hne : e ≠ t) (i : Nat) (u : Value) : (w.setCell ⟨b, i, none⟩ u).ownsRow n₀ e size v n xs :=
  World.ownsRow.kept h (grownBy_setAt _ b _ _) (.inr (own_row_ne h hb hne).symm)
theorem Ct.far {k : IntKind} {e t : TypeId} {base b : Nat} {w : World} {us : List Value} {L : List (List Int)} {B : Nat} {cs : Array Value} (h : Ct k e base w us L B) (hb : Blk w b t cs) (hne : e ≠ t) (i : Nat) (u : Value) : Ct k e base (w.setCell ⟨b, i, none⟩ u) us L B :=
  ⟨h.len, h.row, fun q => by
    obtain ⟨h1, ds, h2, h3⟩ := h.blk q
    exact ⟨h1, ds, h2.far (p := ⟨b, i, none⟩) (h2.ne_type hb hne) u, h3⟩, h.short⟩
/-- A store into a block of another kind. -/
theorem OwnG.far {base : Nat} {w : World} {vn vs : Value} {g : Gr} {us us2 : List Value} {BF GS BS b : Nat} {t : TypeId} {cs : Array Value} (h : OwnG base w vn vs g us us2 BF GS BS) (hb : Blk w b t cs) (h1 : 62 ≠ t) (h2 : 26 ≠ t) (h3 : 47 ≠ t) (h4 : 3 ≠ t) (i : Nat) (u : Value) :
    OwnG base (w.setCell ⟨b, i, none⟩ u) vn vs g us us2 BF GS BS :=
  ⟨own_far h.nodes hb h1 i u, h.flds.far hb h2 i u, h.val, h.grid.far (p := ⟨b, i, none⟩) (h.grid.ne_type hb h3) u, h.rows.far hb h4 i u, h.ge, h.few⟩
/-- How much there is at most. -/
structure FitG (g : Gr) : Prop where
  n : g.1.length ≤ 1048576
  f : (g.1.map (·.2)).flatten.length ≤ 1099511627776
  s : g.2.length ≤ 1099511627776
  h : g.2.flatten.length ≤ 1099511627776
def Fl1 (w w1 : World) (n F : Nat) (us : List Value) (i : Value) (wr : World) : Prop := ∃ (x : Nat) (vs : List Value), x ≤ n ∧ i = .int .i64 x ∧ Blk wr F 60 vs.toArray ∧ vs.length = n ∧ (∀ j, j < x → vs[j]? = us[j]?) ∧ Up w1 wr
def Fl2 (w w2 : World) (n : Nat) (v : Value) (ns : List Nd) (us' : List Value) (i : Value) (wr : World) : Prop := ∃ (x : Nat) (vs : List Value), x ≤ n ∧ i = .int .i64 x ∧ wr.ownsRow w.heap.size 62 4 v n (nvs ns vs) ∧ vs.length = n ∧ (∀ j, j < x → vs[j]? = us'[j]?) ∧ Up w wr ∧ (∀ g t cs, 62 ≠ t → Blk w2 g t cs → Blk wr g t cs)
def CpPost (g : Gr) (w : World) (e : Ending) (w' : World) : Prop :=
  ∃ vn vs us us2 BF GS BS, e = .returned (.agg #[vn, vs]) ∧ OwnG w.heap.size w' vn vs g us us2 BF GS BS ∧ Up w w'
theorem take_same {α : Type} {xs ys : List α} {n : Nat} (h1 : xs.length = n) (h2 : ys.length = n) (h : ∀ j, j < n → xs[j]? = ys[j]?) : xs = ys := by
  apply List.ext_getElem?
  intro j
  rcases Nat.lt_or_ge j n with q | q
  · exact h j q
  · rw [List.getElem?_eq_none (by omega), List.getElem?_eq_none (by omega)]
set_option maxRecDepth 100000 in
set_option maxHeartbeats 4000000 in
theorem copied_any (v : Value) (g : Gr) (w : World) (hg : GrV w v g) (hF : FitG g) : Calls Try.prog 30 #[v] w (CpPost g w) := by
  obtain ⟨va, vb, rfl, ⟨us, hns⟩, hrw⟩ := hg
  have hns0 := hns
  obtain ⟨A, c, rfl, hc1, hc2, hA, hrv, hgd⟩ := hns
  have hul : us.length = g.1.length := by rw [hgd.1, List.length_map]
  have HC := Lib.hid (fun w' (u : Up w w') => clone_node A g.1.length c (nvs g.1 us) w' hA hc1 (nvs_len _ _ hul) (hrv.up u) (nvs_one _ _ hgd.slices) (by have := hF.n; omega))
  have hmk := make_u64 g.1.length (by have := hF.n; omega)
  have HGD := Lib.hid hgd
  have HRW := Lib.hid hrw
  have HF := Lib.hid hF
  have hn20 := hF.n
  have HUL := Lib.hid hul
  generalize hn : g.1.length = n at *
  have HN := Lib.hid hn
  clear hn hns0 hrv hgd hrw hF hA hc1 hc2 hul
  go_enter Try.func30, Try.ntmps30
  go_wp2_with (fail)
  refine (HC.out _ (((Up.refl w).alloc _).alloc _)).mono ?_
  rintro e w1 ⟨v1, rfl, ho0, hU0⟩
  have hb1 : Blk w1 w.heap.size 25 #[.slice A n c, vb] := ((Blk.new w _ _).alloc _).up hU0
  have hb2 : Blk w1 (w.heap.size + 1) 25 #[.slice none 0 0, .slice none 0 0] := (Blk.new' _ (by simp) _ _).up hU0
  have hU1 := (((Up.refl w).alloc (.cells #[.slice A n c, vb] 25)).alloc (.cells #[.slice none 0 0, .slice none 0 0] 25)).trans hU0
  have ho1 := own_le ho0 (n₁ := w.heap.size) (by simp; omega)
  have hc1 := hb1.cell
  have hlt1 := hb1.lt
  have HNS : Hid (NsW w1 v1 us g.1) := Lib.hid (ns_of_own (by rw [HN.out]; exact ho1) (HGD.out.up hU1))
  have HO1 := Lib.hid ho1
  obtain ⟨A1, c1, rfl⟩ := own_slice ho1
  have HB1 := Lib.hid hb1
  have HB2 := Lib.hid hb2
  have HU1 := Lib.hid hU1
  clear HC ho0 ho1 hb1 hb2 hU0 hU1
  go_wp2_with (fail)
  go_loopw [17] (fun i wr => Fl1 w w1 n w1.heap.size us i wr) (fun i _ => n - (intOf i).toNat)
  case atStart => exact ⟨0, _, Nat.zero_le _, rfl, Blk.new _ _ _, by simp, fun j q => absurd q (by omega), (Up.refl _).alloc _⟩
  case round =>
    obtain ⟨x, vs, hx, rfl, hF2, hvl, hvs, hU⟩ := hrel
    by_cases hlt : x < n
    · obtain ⟨p, u, rfl, hux, ⟨hn0, hn1, hn2, hn3⟩, hsu⟩ := (HNS.out.up hU).at_ hlt
      have hp := lt_of_cell hn0
      obtain ⟨Au, cu, rfl, -⟩ := hsu
      have hF1 := (hF2.alloc (.cells #[.int .i64 (g.1.getD x ((0, 0, 0), [])).1.1, .int .i64 (g.1.getD x ((0, 0, 0), [])).1.2.1, .int .u64 (g.1.getD x ((0, 0, 0), [])).1.2.2, .slice Au (g.1.getD x ((0, 0, 0), [])).2.length cu] 62))
      have hcF := hF1.cell x
      have hxv : x < vs.length := by omega
      rw [List.getElem?_toArray, List.getElem?_eq_getElem hxv] at hcF
      have hfF := hF1.frozen x
      have hlF := hF1.lt
      have HF1 := Lib.hid hF1
      have HVL := Lib.hid hvl
      have HVS := Lib.hid hvs
      have HUX := Lib.hid hux
      have HU := Lib.hid hU
      clear hF2 hF1 hvl hvs hux hU
      generalize g.1.getD x ((0, 0, 0), []) = nd at *
      generalize vs[x] = vx at *
      generalize nd.2.length = ln at *
      go_wp2
      have hset : (vs.toArray.setIfInBounds x (.slice Au ln cu)) = (vs.set x (.slice Au ln cu)).toArray := by simp
      refine ⟨⟨x + 1, vs.set x (.slice Au ln cu), by omega, by go_num, by rw [← hset]; exact HF1.out.set_ x _, by rw [List.length_set]; exact HVL.out, fun j hj => ?_, (HU.out.alloc _).setCell (Nat.le_refl _) _⟩, by simp [intOf]; omega⟩
      by_cases hjx : j = x
      · subst hjx
        rw [List.getElem?_set_self (by rw [HVL.out]; exact hlt), HUX.out]
      · rw [List.getElem?_set_ne (fun q => hjx q.symm)]
        exact HVS.out j (by omega)
    · obtain rfl : n = x := by omega
      have e : vs = us := take_same hvl (by rw [HUL.out]) hvs
      subst e
      have HLD := Lib.hid (laid_u64 (.slice (some ⟨w1.heap.size, 0, none⟩) n n) (g.1.map (·.2)) wr ⟨vs, some ⟨w1.heap.size, 0, none⟩, n, by rw [List.length_map, HN.out], by rw [List.length_map, HN.out]; exact Nat.le_refl _, by unfold maxLen; omega, fun q => (by cases q), rv_of_blk hF2 (fun j v hj => by simpa using hj), HGD.out.up (HU1.out.trans hU)⟩ HF.out.f (by rw [List.length_map, HN.out]; omega))
      have HU := Lib.hid hU
      clear hU hF2 hvs
      go_wp2_with (fail)
      refine HLD.out.mono ?_
      rintro e w2 ⟨G, B, us', rfl, hG, hct, hGe, hU2⟩
      rw [List.length_map, HN.out]
      have HU2 := Lib.hid ((HU1.out.trans HU.out).trans hU2)
      have hu12 := HU.out.trans hU2
      have ho2 := own_up HO1.out hu12
      have hus : us'.length = n := by rw [hct.len, List.length_map, HN.out]
      have hcb := (HB1.out.up hu12).cell
      have hlb := (HB1.out.up hu12).lt
      have HG := Lib.hid hG
      have HCT := Lib.hid hct
      have HO2 := Lib.hid ho2
      have HB1' := Lib.hid (HB1.out.up hu12)
      have HB2' := Lib.hid (HB2.out.up hu12)
      have HUS := Lib.hid hus
      clear hG hct hU2 hu12 ho2 HLD hus hcb hlb hc1 hlt1
      go_wp2_with (fail)
      go_loopw [31] (fun i wr => Fl2 w w2 n (.slice A1 n c1) g.1 us' i wr) (fun i _ => n - (intOf i).toNat)
      case atStart => exact ⟨0, _, Nat.zero_le _, rfl, HO2.out, HUL.out, fun j q => absurd q (by omega), HU2.out, fun g t cs _ h => h⟩
      case round =>
        rename World => w3
        obtain ⟨x, vs2, hx, rfl, ho3, hvl, hvs, hU, hK⟩ := hrel
        by_cases hlt : x < n
        · have hG3 := hK _ _ _ (by decide) HG.out
          have hcG := hG3.cell x
          have hxu : x < us'.length := by rw [HUS.out]; exact hlt
          rw [List.getElem?_toArray, List.getElem?_eq_getElem hxu] at hcG
          have hgr : (g.1.map (·.2))[x]? = some ((g.1.map (·.2)).getD x []) := by
            have : x < (g.1.map (·.2)).length := by rw [List.length_map, HN.out]; exact hlt
            simp [List.getD, List.getElem?_eq_getElem this]
          obtain ⟨A3, e3, -⟩ := HCT.out.row x _ _ (List.getElem?_eq_getElem hxu) hgr
          have HU3 : Hid (us'[x]? = some (.slice A3 ((g.1.map (·.2)).getD x []).length ((g.1.map (·.2)).getD x []).length)) := Lib.hid (by rw [← e3]; exact List.getElem?_eq_getElem hxu)
          rw [e3] at hcG
          have ho3' := ho3
          obtain ⟨hol, hoc⟩ := ho3'
          rcases hoc with ⟨q, q2⟩ | ⟨gN, cap, cur, e4, hb4, hg4, h5, h6, h7, h8⟩
          · omega
          cases e4
          have hxv : x < vs2.length := by omega
          have hxn : x < g.1.length := by rw [HN.out]; exact hlt
          have hat := nvs_at g.1 vs2 x g.1[x] vs2[x] (List.getElem?_eq_getElem hxn) (List.getElem?_eq_getElem hxv)
          have hcN : w3.cell? ⟨gN, x * 4 + 3, none⟩ = some vs2[x] := by
            rw [cell_of_row w3 gN _ cur _ (0, 0) hg4]
            have := hat.2.2.2
            rw [← h8, List.getElem?_take, if_pos (by omega)] at this
            simpa using this
          have hfN : w3.frozen? ⟨gN, x * 4 + 3, none⟩ = false := World.ownsRow.frozenAt ho3 _
          have hlN := lt_of_cell hcN
          obtain ⟨p, hp⟩ : ∃ p : Addr, p = ⟨gN, 0, none⟩ := ⟨_, rfl⟩
          have hpx : (⟨(p.add (x * 4)).block, (p.add (x * 4)).off + 3, none⟩ : Addr) = ⟨gN, x * 4 + 3, none⟩ := by rw [hp, nxt_add3, add_zero']
          rw [← hpx] at hcN hfN
          have hpb : (p.add (x * 4)).block < w3.heap.size := by rw [hp, block_of_add]; exact hlN
          have HPX := Lib.hid hpx
          have HP := Lib.hid hp
          have HO3 := Lib.hid ho3
          have HVL := Lib.hid hvl
          have HVS := Lib.hid hvs
          have HU := Lib.hid hU
          have HK := Lib.hid hK
          have HG4 : Hid (Blk w3 gN 62 cur) := Lib.hid hg4
          have HB4 := Lib.hid hb4
          rw [← hp]
          clear hpx hp ho3 hvl hvs hU hK hG3 hg4 h5 h6 h7 h8 hol hat e3 hgr hb4 hxn
          generalize ((g.1.map (·.2)).getD x []).length = ln at *
          generalize vs2[x] = vx at *
          go_wp2
          rw [HPX.out, HP.out]
          refine ⟨⟨x + 1, vs2.set x (.slice A3 ln ln), by omega, by go_num, ?_, by rw [List.length_set]; exact HVL.out, fun j hj => ?_, HU.out.setCell HB4.out _, fun g' t' cs' hne hb => ?_⟩, by simp [intOf]; omega⟩
          · rw [nvs_set _ _ _ _ (by rw [HVL.out, HN.out])]
            exact (World.ownsRow.stored HO3.out _ _).1
          · by_cases hjx : j = x
            · subst hjx
              rw [List.getElem?_set_self (by rw [HVL.out]; exact hlt), HU3.out]
            · rw [List.getElem?_set_ne (fun q => hjx q.symm)]
              exact HVS.out j (by omega)
          · have hb3 := HK.out g' t' cs' hne hb
            exact hb3.far (p := ⟨gN, x * 4 + 3, none⟩) (hb3.ne_type HG4.out (fun q => hne q.symm)) _
        · obtain rfl : n = x := by omega
          have e : vs2 = us' := take_same hvl HUS.out hvs
          subst e
          have hba := hK _ _ _ (by decide) HB1'.out
          have hbr := hK _ _ _ (by decide) HB2'.out
          have HLI := Lib.hid (laid_int vb g.2 w3 (HRW.out.up hU) HF.out.h HF.out.s)
          have hcb := hba.cell
          have hlb := hba.lt
          have HBR := Lib.hid hbr
          have HCT3 : Hid (Ct .u64 26 w.heap.size w3 vs2 (g.1.map (·.2)) B) := Lib.hid ⟨HCT.out.len, HCT.out.row, fun q => by
            obtain ⟨h1, cs, h2, h3⟩ := HCT.out.blk q
            exact ⟨Nat.le_trans (Nat.le_trans HU1.out.size HU.out.size) h1, cs, hK _ _ _ (by decide) h2, h3⟩, HCT.out.short⟩
          have HO3 := Lib.hid ho3
          have HU3 := Lib.hid hU
          clear ho3 hK hU hvs hvl hba hbr
          go_wp2_with (fail)
          refine HLI.out.mono ?_
          rintro e w4 ⟨GS, BS, us2, rfl, hG4, hct4, hGe4, hU4⟩
          have hb4 := HBR.out.up hU4
          have hc4 := hb4.cell
          have hf4 := hb4.frozen
          have hl4 := hb4.lt
          have HO4 := Lib.hid (own_up HO3.out hU4)
          have HCT4 := Lib.hid (HCT3.out.up hU4)
          have HB4 := Lib.hid hb4
          have HG4 := Lib.hid hG4
          have HC4 := Lib.hid hct4
          have HU4 := Lib.hid hU4
          have HU5 := Lib.hid (HU3.out.trans hU4)
          clear hb4 hG4 hct4 hU4 HLI
          have HGe : Hid (w.heap.size ≤ GS) := Lib.hid (Nat.le_trans HU3.out.size hGe4)
          clear hGe4
          go_wp2_with (fail)
          have HBX : Blk ((w4.setCell ⟨w.heap.size + 1, 0, none⟩ (Value.slice A1 n c1)).setCell ⟨w.heap.size + 1, 1, none⟩ (Value.slice (some ⟨GS, 0, none⟩) g.2.length g.2.length)) (w.heap.size + 1) 25 #[Value.slice A1 n c1, Value.slice (some ⟨GS, 0, none⟩) g.2.length g.2.length] := by
            have := (HB4.out.set_ 0 (Value.slice A1 n c1)).set_ 1 (Value.slice (some ⟨GS, 0, none⟩) g.2.length g.2.length)
            simpa using this
          refine bodyPost_ret (results_cell_row rfl _ _ (w.heap.size + 1) 25 _ _ _ rfl HBX Try.underlying25 rfl (by kernel_rfl)) rfl ?_
          have hO : OwnG w.heap.size w4 (.slice A1 n c1) (.slice (some ⟨GS, 0, none⟩) g.2.length g.2.length) g vs2 us2 B GS BS := by
            refine ⟨by rw [HN.out]; exact HO4.out, HCT4.out, rfl, HG4.out, ?_, HGe.out, Nat.le_trans HF.out.s (by unfold maxLen; omega)⟩
            exact ⟨HC4.out.len, HC4.out.row, fun q => by
              obtain ⟨h1, cs, h2, h3⟩ := HC4.out.blk q
              exact ⟨Nat.le_trans HU3.out.size h1, cs, h2, h3⟩, HC4.out.short⟩
          exact ⟨_, _, vs2, us2, B, GS, BS, rfl, (hO.far HB4.out (by decide) (by decide) (by decide) (by decide) 0 _).far (HB4.out.set_ 0 _) (by decide) (by decide) (by decide) (by decide) 1 _, (HU5.out.setCell (by simp) _).setCell (by simp) _⟩
end Go.Proofs.Ytlocllcijncllaa
