/- Addresses are turned into others (package stack: Turn): contracts. -/
import Derived.Test.YtpbbbgcafphplaaSk4
namespace Go.Proofs.Ytpbbbgcafphplaa
open Go.Joins Go.ChangeShapes Go.WideShapes Go.ChangeAt Go.RowKit Go.Deep Go.Shelf Go.Maps
set_option linter.unusedVariables false
set_option linter.unusedSimpArgs false

theorem Sl.take {w : World} {A : Option Addr} {n c : Nat} {xs : List Int} (h : Sl w (.slice A n c) xs) (k : Nat) (hk : k ≤ n) : Sl w (.slice A k c) (xs.take k) := by
  obtain ⟨A', c', e, h1, h2, h3, h4⟩ := h
  cases e
  have hl2 : (xs.take k).length = k := by rw [List.length_take]; omega
  exact ⟨A, c, by rw [hl2], by omega, h2, h3, by rw [hl2]; exact Rd.take h4 hk⟩
/-- A slice is cut at its end, whatever its address. -/
theorem wpList_cut {w : World} {ops : Array Oper} {rest : List Oper} {o : Oper} {a : Act} {Q : Exit → Act → World → Prop} (hgd : o.guard = none) (s hi : Operand) (ho : o.op = .slice 22 s none (some hi) none)
    (A : Option Addr) (n c k : Nat) (hs : a.eval s = .slice A n c) (hh : a.eval hi = .int .i64 (k : Int)) (hk : k ≤ c) (hA : A = none → c = 0)
    (h : wpList Try.prog ops Q rest (a.put o.dst (.slice A k c)) w) : wpList Try.prog ops Q (o :: rest) a w := by
  refine wpList_plain hgd fun K hK => ?_
  obtain ⟨i0, hi0, hz0, hz1, hz2⟩ := info_parts info_u64
  have hel : Try.prog.elem 22 = 23 := by kernel_rfl
  have hu : Try.prog.underlying 22 = some (.slice (Try.prog.elem 22)) := by rw [hel]; exact Try.underlying22
  have e : (Instr.sliceAt 22 (.slice A n c) none (some (.int .i64 (k : Int))) none).run Try.prog w = .ok (.slice A k c) w := by
    rw [run_sliceAt_slice (h := hu), run_slice_h (ht := hu) (h0 := by omega) (h2 := by omega), hel]
    cases A
    · obtain rfl := hA rfl
      obtain rfl : k = 0 := by omega
      simp [sizeOf, typeInfo, hi0, sliced]
    · rename_i p
      have e0 : p.add 0 = p := Addr.add_zero' p
      simp [sizeOf, typeInfo, hi0, sliced, e0]
  unfold Oper.wp
  simp [execOp, ho, hs, hh, e, Result.andThen]
  exact hK _ _ h
/-- A row, the first h of which are turned. -/
def half (f : Int → Int) (xs : List Int) (h : Nat) : List Int := (xs.take h).map f ++ xs.drop h
theorem half_0 (f : Int → Int) (xs : List Int) : half f xs 0 = xs := by simp [half]
theorem half_all (f : Int → Int) (xs : List Int) : half f xs xs.length = xs.map f := by simp [half]
theorem half_len (f : Int → Int) (xs : List Int) (h : Nat) (k : h ≤ xs.length) : (half f xs h).length = xs.length := by simp [half]; omega
theorem half_step (f : Int → Int) (xs : List Int) {h : Nat} (k : h < xs.length) : half f xs (h + 1) = (half f xs h).set h (f (xs.getD h 0)) := by
  unfold half
  rw [take_one 0 k, drop_one 0 k, List.map_append, List.append_assoc]
  have hl : ((xs.take h).map f).length = h := by simp; omega
  rw [List.set_append_right _ _ (by omega), hl, Nat.sub_self]
  rfl
theorem half_same (f : Int → Int) (xs : List Int) {h : Nat} (k : h < xs.length) (e : f (xs.getD h 0) = xs.getD h 0) : half f xs (h + 1) = half f xs h := by
  unfold half
  rw [take_one 0 k, drop_one 0 k, List.map_append, List.append_assoc]
  simp only [List.map_cons, List.map_nil, e]
  rfl
/-- The rows, the first x of which are done. -/
def part (g : List Int → List Int) (L : List (List Int)) (x : Nat) : List (List Int) := (L.take x).map g ++ List.replicate (L.length - x) []
theorem part_0 (g : List Int → List Int) (L : List (List Int)) : part g L 0 = List.replicate L.length [] := by simp [part]
theorem part_all (g : List Int → List Int) (L : List (List Int)) : part g L L.length = L.map g := by simp [part]
theorem part_len (g : List Int → List Int) (L : List (List Int)) (x : Nat) (k : x ≤ L.length) : (part g L x).length = L.length := by simp [part]; omega
theorem part_step (g : List Int → List Int) (L : List (List Int)) {x : Nat} (k : x < L.length) : part g L (x + 1) = (part g L x).set x (g (L.getD x [])) := by
  unfold part
  have hl : ((L.take x).map g).length = x := by simp; omega
  rw [take_one [] k, List.map_append, List.append_assoc, List.set_append_right _ _ (by omega), hl, Nat.sub_self]
  obtain ⟨d, hd⟩ : ∃ d, L.length - x = d + 1 := ⟨L.length - x - 1, by omega⟩
  rw [hd, show L.length - (x + 1) = d from by omega, List.replicate_succ]
  rfl
/-- A store into an owned row of words. -/
theorem Lo.stored {w : World} {n₀ g k c : Nat} {xs : List Int} (h : Lo w n₀ (.slice (some ⟨g, 0, none⟩) k c) xs) (hk : xs.length = k) (j : Nat) (b : Int) : Lo (w.setCell ⟨g, j, none⟩ (.int .u64 b)) n₀ (.slice (some ⟨g, 0, none⟩) k c) (xs.set j b) := by
  subst hk
  have := (World.ownsRow.stored h j (.int .u64 b)).1
  unfold Lo
  rw [List.length_set, show wds (xs.set j b) = (wds xs).set j (.int .u64 b) from by simp [wds, List.map_set, wd]]
  exact this
theorem Lo.frozen {w : World} {n₀ g k c : Nat} {xs : List Int} (h : Lo w n₀ (.slice (some ⟨g, 0, none⟩) k c) xs) (hk : xs.length = k) (j : Nat) : w.frozen? ⟨g, j, none⟩ = false := by
  subst hk
  exact World.ownsRow.frozenAt h j
theorem grownBy_setAt (w : World) (G i : Nat) (u : Value) : w.grownBy (w.setCell ⟨G, i, none⟩ u) (some G) :=
  ⟨rfl, rfl, rfl, by simp, fun k _ hk => heap_setCell_other w ⟨G, i, none⟩ k u (fun e => hk (by simp [e]))⟩
theorem not_in {G b N : Nat} {S : List Nat} (hb : b < G) (hN : b < N) (hS : ∀ s ∈ S, N ≤ s) : b ∉ G :: S := fun q => by
  rcases List.mem_cons.1 q with r | r
  · omega
  · have := hS _ r
    omega
theorem ge_all {a G N : Nat} {S : List Nat} (hG : a ≤ G) (h : a ≤ N) (hS : ∀ s ∈ S, N ≤ s) : ∀ s ∈ G :: S, a ≤ s := fun s q => by
  rcases List.mem_cons.1 q with r | r
  · omega
  · have := hS _ r
    omega
theorem Up.cell {w w' : World} {a : Addr} {v : Value} (k : Up w w') (h : w.cell? a = some v) : w'.cell? a = some v := by
  have hl := lt_of_cell h
  exact (Below.cell k hl).trans h
def TuRel (w : World) (B M G n : Nat) (L : List (List Int)) (fs' : List Int) (g : List Int → List Int) (i : Value) (wr : World) : Prop :=
  ∃ (x : Nat) (us : List Value), x ≤ n ∧ i = .int .i64 x ∧ Grid wr G us (part g L x) ∧ FnOk wr B M fs' ∧ Up w wr
def InRel (wb : World) (G n₀ k : Nat) (S : List Nat) (v1 : Value) (vs : List Value) (xs : List Int) (f : Int → Int) (i : Value) (wr : World) : Prop :=
  ∃ h : Nat, h ≤ k ∧ i = .int .i64 h ∧ Sl wr v1 (half f xs h) ∧ (xs ≠ [] → Lo wr n₀ v1 (half f xs h)) ∧ Blk wr G 22 vs.toArray ∧ Kp (G :: S) wb wr
set_option maxRecDepth 100000 in
set_option maxHeartbeats 4000000 in
theorem turn_any (v f t : Value) (L : List (List Int)) (fs ts : List Int) (w : World) (hL : Rw w v L) (hf : Sl w f fs) (ht : Sl w t ts) (hF : Fit L) (hfu : ∀ x ∈ fs, U64 x) : Calls Try.prog 24 #[v, f, t] w (RwPost (turned fs ts L) w) := by
  have hL0 := hL
  have hf0 := hf
  have ht0 := ht
  have hLm := hL.max
  have hfm := hf.max
  have htm := ht.max
  have hmk := make_rows L.length hF.n
  obtain ⟨A, c, rfl, hc1, hc2, hA, hr⟩ := hL
  obtain ⟨Af, cf, rfl, hcf1, hcf2, hAf, hrf⟩ := hf
  obtain ⟨At, ct, rfl, hct1, hct2, hAt, hrt⟩ := ht
  have hfi := Lib.hid (finder_any _ _ w (hf0.take (min fs.length ts.length) (by omega)) (fun x hx => hfu x (List.mem_of_mem_take hx)))
  have HL := Lib.hid hL0
  have HT := Lib.hid ht0
  have HF := Lib.hid hF
  have hmc : min fs.length ts.length ≤ cf := by omega
  clear hL0 hf0 ht0 hr hrf hrt hA hF hfu hc1 hcf1 hct1
  generalize hn : L.length = n at *
  generalize hnt : ts.length = nt at *
  generalize hnf : fs.length = nf at *
  unfold maxLen at *
  have emin : min (nf : Int) (nt : Int) = ((min nf nt : Nat) : Int) := by omega
  go_enter Try.func24, Try.ntmps24
  go_wp2_with (with_reducible refine halt_at (o := ⟨some 21, _, _, _, _, _⟩) ?_)
  unfold Halt
  refine wpList_cut rfl _ _ rfl Af nf cf (min nf nt) rfl rfl hmc hAf ?_
  go_wp2_with (fail)
  refine hfi.out.mono ?_
  rintro e w1 ⟨B, M, rfl, hfo, hU1⟩
  have hB : B < w1.heap.size := hfo.1.lt
  have hM : M < w1.heap.size := by
    obtain ⟨_, _, _, ⟨es, clock, hb, _⟩, _⟩ := hfo
    exact (Array.getElem?_eq_some_iff.1 hb).1
  have hG := Grid.made w1 n
  have hwG := hU1.size
  have hfo2 := hfo.up ((Up.refl w1).alloc (.cells (List.replicate n (Value.slice none 0 0)).toArray 22))
  have hU2 := hU1.alloc (.cells (List.replicate n (Value.slice none 0 0)).toArray 22)
  generalize hGn : w1.heap.size = G at *
  go_wp2_with (fail)
  go_loopw [28] (fun i wr => TuRel w B M G n L (fs.take (min nf nt)) (fun xs => xs.map (tof fs ts)) i wr) (fun i _ => n - (intOf i).toNat)
  case atStart => exact ⟨0, _, Nat.zero_le _, rfl, by rw [part_0, hn]; exact hG, hfo2, hU2⟩
  case round =>
    rename World => wb
    obtain ⟨x, us, hxn, rfl, hGr, hFn, hU⟩ := hrel
    by_cases hlt : x < n
    · obtain ⟨p, u, rfl, hcu, hsu⟩ := (HL.out.up hU).at_ hlt
      have hlx : x < L.length := by rw [hn]; exact hlt
      have hxl := HF.out.l _ (getD_mem [] hlx)
      have hxu := Lib.hid (HF.out.u _ (getD_mem [] hlx))
      have PS := Lib.hid (part_step (fun xs => xs.map (tof fs ts)) L hlx)
      have hpl : x < (part (fun xs => xs.map (tof fs ts)) L x).length := by rw [part_len _ _ _ (by omega), hn]; exact hlt
      generalize L.getD x [] = xs at hsu hxl hxu PS
      have han := Lib.hid (anew_any u xs wb hsu hxl)
      have HSU := Lib.hid hsu
      obtain ⟨Au, cu, rfl, -⟩ := hsu
      have hxm := HSU.out.max
      generalize hk : xs.length = k at *
      unfold maxLen at hxm
      have HGr := Lib.hid hGr
      have HFn := Lib.hid hFn
      have HUp := Lib.hid hU
      obtain ⟨u0, hu0, hc0, -⟩ := hGr.at_ hpl
      have hzl : w.heap.size ≤ wb.heap.size := hU.size
      have hGl : G < wb.heap.size := hGr.1.lt
      clear hGr hFn hU hG hfo hfo2 hU1 hU2 hfi
      go_wp2_with (fail)
      refine han.out.mono ?_
      rintro e w2 ⟨v1, rfl, hs1, hlo1, hk2⟩
      have hb2 := HGr.out.1.up hk2
      have hcG := hb2.cell x
      rw [List.getElem?_toArray, hu0] at hcG
      have hfG := hb2.frozen x
      have hlG := hb2.lt
      clear hc0 hcu han
      obtain ⟨S, hS, hSg⟩ : ∃ S : List Nat, (∀ s ∈ S, wb.heap.size ≤ s) ∧ (xs ≠ [] → ∃ g cap, v1 = .slice (some ⟨g, 0, none⟩) k cap ∧ g ∈ S) := by
        by_cases h : xs = []
        · exact ⟨[], fun s hs => (by cases hs), fun q => absurd h q⟩
        · have hl := hlo1 h
          obtain ⟨d, hd⟩ : ∃ d, xs.length = d + 1 := ⟨xs.length - 1, by have := List.length_pos_iff.2 h; omega⟩
          have hl2 := hl
          unfold Lo at hl2
          rw [hd] at hl2
          obtain ⟨g, cap, e⟩ := ownsRow_succ hl2
          refine ⟨[g], fun s hs => ?_, fun _ => ⟨g, cap, by rw [e, ← hk, hd], by simp⟩⟩
          rw [List.mem_singleton.1 hs]
          exact (World.ownsRow.lt hl g (by rw [e]; rfl)).1
      have HS1 := Lib.hid hs1
      have HLO1 := Lib.hid hlo1
      obtain ⟨A1, c1, e1, -⟩ := hs1
      rw [hk] at e1
      subst e1
      have HK := Lib.hid hk
      clear hlo1
      go_wp2_with (fail)
      have hbS : Blk (w2.setCell ⟨G, x, none⟩ (.slice A1 k c1)) G 22 (us.set x (.slice A1 k c1)).toArray := by
        have := hb2.set_ x (.slice A1 k c1)
        simpa using this
      have hkS : Kp (G :: S) wb (w2.setCell ⟨G, x, none⟩ (.slice A1 k c1)) := (Kp.of_up hk2).set_ (by simp) _
      have hsS : Sl (w2.setCell ⟨G, x, none⟩ (.slice A1 k c1)) (.slice A1 k c1) xs :=
        HS1.out.kpG hb2 HGr.out.2.2.1 ((Kp.refl [G] w2).set_ (by simp) _) (fun s hs => by cases hs)
      have hloS : xs ≠ [] → Lo (w2.setCell ⟨G, x, none⟩ (.slice A1 k c1)) wb.heap.size (.slice A1 k c1) xs := fun h =>
        World.ownsRow.kept (HLO1.out h) (grownBy_setAt _ G _ _) (.inr (own_row_ne (HLO1.out h) hb2 (by decide)).symm)
      generalize w2.setCell ⟨G, x, none⟩ (.slice A1 k c1) = w3 at *
      clear hcG hfG hlG hb2 hk2 HS1 HLO1 hk
      go_loopw [40] (fun i wr => InRel wb G wb.heap.size k S (.slice A1 k c1) (us.set x (.slice A1 k c1)) xs (tof fs ts) i wr) (fun i _ => k - (intOf i).toNat)
      case atStart => exact ⟨0, Nat.zero_le _, rfl, by rw [half_0]; exact hsS, fun h => by rw [half_0]; exact hloS h, hbS, hkS⟩
      case round =>
        clear hbS hkS hsS hloS
        obtain ⟨h, hhk, rfl, hs4, hlo4, hb4, hk4⟩ := hrel
        by_cases hh : h < k
        · have hne : xs ≠ [] := fun q => by rw [q] at HK; have := HK.out; simp at this; omega
          obtain ⟨g, cap, ev, hgS⟩ := hSg hne
          injection ev with ev1 ev2 ev3
          subst ev1
          subst ev3
          have hlo := hlo4 hne
          have hgs := hS g hgS
          have hlh : h < xs.length := by rw [HK.out]; exact hh
          have HST := Lib.hid (half_step (tof fs ts) xs hlh)
          have HSM := Lib.hid (half_same (tof fs ts) xs hlh)
          have hau : U64 (xs.getD h 0) := hxu.out _ (getD_mem 0 hlh)
          obtain ⟨pu, rfl, hcu⟩ := (HSU.out.kpG HGr.out.1 HGr.out.2.2.1 hk4 hS).rd.at_ hh
          have hFn4 := HFn.out.kp hk4 (not_in hB (Nat.lt_trans hB hGl) hS) (not_in hM (Nat.lt_trans hM hGl) hS)
          have hU4 : Up w wr := HUp.out.kp hk4 (ge_all hwG hzl hS)
          have hfd := Lib.hid (find_any (xs.getD h 0) B M _ wr hau hFn4)
          have HKP := Lib.hid hk4
          have HB4 := Lib.hid hb4
          have HLO := Lib.hid hlo
          have HUU := Lib.hid hU4
          clear hlo4 hs4 hFn4 hU4 hk4 hb4 hlo hau
          have HTF : Hid (tof fs ts (xs.getD h 0) = if xs.getD h 0 ∈ fs.take (min nf nt) then ts.getD ((fs.take (min nf nt)).idxOf (xs.getD h 0)) 0 else xs.getD h 0) := Lib.hid (by unfold tof; rw [hnf, hnt])
          have hvx : (us.set x (Value.slice (some ⟨g, 0, none⟩) k c1))[x]? = some (Value.slice (some ⟨g, 0, none⟩) k c1) := by
            rw [List.getElem?_set_self (by
              rcases Nat.lt_or_ge x us.length with q | q
              · exact q
              · rw [List.getElem?_eq_none q] at hu0; cases hu0)]
          have hidx := Lib.hid (fun h' => idx_lt (fs := fs) (ts := ts) (a := xs.getD h 0) h')
          rw [hnf, hnt] at hidx
          generalize xs.getD h 0 = a at *
          unfold fdv at hfd
          by_cases hin : a ∈ fs.take (min nf nt)
          · rw [if_pos hin, decide_eq_true hin] at hfd
            have hE := HTF.out
            rw [if_pos hin] at hE
            have hlt2 := hidx.out hin
            rw [hE] at HST
            obtain ⟨pt, rfl, hct⟩ := (HT.out.up HUU.out).rd.at_ hlt2
            generalize (fs.take (min nf nt)).idxOf a = q at *
            generalize ts.getD q 0 = b at *
            clear HSM HTF hE hidx hin
            go_wp2_with (fail)
            refine hfd.out.mono ?_
            rintro e w5 ⟨rfl, hk5⟩
            have HKP5 := Lib.hid (HKP.out.up hk5)
            have hB5 := HB4.out.up hk5
            have hLO5 := HLO.out.up hk5
            have hhl : (half (tof fs ts) xs h).length = k := by rw [half_len _ _ _ (by omega), HK.out]
            have hct5 := hk5.cell hct
            have hcG5 := hB5.cell x
            rw [List.getElem?_toArray, hvx] at hcG5
            have hrd5 := hLO5.sl
            obtain ⟨A', cap', e5, -, -, hrd5⟩ := hrd5
            rw [hhl] at hrd5 e5
            cases e5
            obtain ⟨p5, e5, hcg5⟩ := hrd5.at_ hh
            cases e5
            rw [add_zero'] at hcg5
            have hfg5 := hLO5.frozen hhl h
            have hlg5 := lt_of_cell hcg5
            have HB5 := Lib.hid hB5
            have HLO5 := Lib.hid hLO5
            have HHL := Lib.hid hhl
            clear hk5 hct hcu hfd hrd5 hB5 hLO5 hhl
            go_wp2_with (fail)
            go_region
            have hLO6 := Lib.hid ((HLO5.out.stored HHL.out h b).up ((Up.refl _).drew))
            have hB6 := Lib.hid ((HB5.out.far (p := ⟨g, h, none⟩) (by simp only []; omega) (.int .u64 b)).up ((Up.refl _).drew))
            have hK6 := Lib.hid ((HKP5.out.set_ (g := g) (i := h) (by simp [hgS]) (.int .u64 b)).up ((Up.refl _).drew))
            clear hct5 hcG5 hcg5 hfg5 hlg5 HLO5 HB5 HKP5
            go_wp2
            refine ⟨⟨h + 1, by omega, by go_num, ?_, fun _ => ?_, hB6.out, hK6.out⟩, by simp [intOf]; omega⟩
            · rw [HST.out]
              have h6 := hLO6.out
              exact Sl.of_lo h6
            · rw [HST.out]; exact hLO6.out
          · rw [if_neg hin, decide_eq_false hin] at hfd
            have hE := HTF.out
            rw [if_neg hin] at hE
            have hS2 := HSM.out hE
            clear HSM HTF hE hidx hin HST
            go_wp2_with (fail)
            refine hfd.out.mono ?_
            rintro e w5 ⟨rfl, hk5⟩
            have HKP5 := Lib.hid (HKP.out.up hk5)
            have HB5 := Lib.hid (HB4.out.up hk5)
            have HLO5 := Lib.hid (HLO.out.up hk5)
            clear hk5 hcu hfd
            go_wp2
            refine ⟨⟨h + 1, by omega, by go_num, ?_, fun _ => ?_, HB5.out, HKP5.out⟩, by simp [intOf]; omega⟩
            · rw [hS2]; exact Sl.of_lo HLO5.out
            · rw [hS2]; exact HLO5.out
        · obtain rfl : h = k := by omega
          have ha := half_all (tof fs ts) xs
          rw [HK.out] at ha
          rw [ha] at hs4
          have hgr := HGr.out.put hb4 hs4 hk4 hS
          rw [← PS.out] at hgr
          have hFn4 := HFn.out.kp hk4 (not_in hB (Nat.lt_trans hB hGl) hS) (not_in hM (Nat.lt_trans hM hGl) hS)
          have hU4 : Up w wr := HUp.out.kp hk4 (ge_all hwG hzl hS)
          have HR := Lib.hid hgr
          have HF4 := Lib.hid hFn4
          have HU4 := Lib.hid hU4
          clear hgr hFn4 hU4 hs4 hlo4 hb4 hk4 ha
          go_wp2
          exact ⟨⟨x + 1, _, by omega, by go_num, HR.out, HF4.out, HU4.out⟩, by simp [intOf]; omega⟩
    · obtain rfl : x = n := by omega
      have hp := part_all (fun xs => xs.map (tof fs ts)) L
      rw [hn] at hp
      rw [hp] at hGr
      have hR := hGr.rw (c := x) (by rw [List.length_map, hn]; exact Nat.le_refl _) (by unfold maxLen; exact hLm)
      rw [List.length_map, hn] at hR
      have HR := Lib.hid hR
      have HU := Lib.hid hU
      clear hR hU hGr hFn hp
      go_wp2
      go_ret
      exact ⟨_, rfl, HR.out, HU.out⟩
end Go.Proofs.Ytpbbbgcafphplaa
