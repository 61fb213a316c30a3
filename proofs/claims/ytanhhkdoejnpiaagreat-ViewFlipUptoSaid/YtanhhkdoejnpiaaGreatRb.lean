/- The document's words of what is reached, rows one behind the other, places: contracts. -/
import Derived.Test.YtanhhkdoejnpiaaGreatRa
namespace Go.Proofs.YtanhhkdoejnpiaaGreat.G
open Go.Joins Go.ChangeShapes Go.WideShapes Go.ChangeAt Go.RowKit Go.Deep Go.Shelf Go.Maps
set_option linter.unusedVariables false
set_option linter.unusedSimpArgs false

/-! ### Words -/
def WoR (m : Me) (xs : List Int) (w : World) (P Q : Addr) (c d : Nat) (u6 u7 i : Value) (wr : World) : Prop :=
  ∃ x : Nat, x ≤ xs.length ∧ i = .int .i64 x ∧ u6 = .int .i64 (m.ows (xs.take x)) ∧ u7 = .int .i64 (m.fws (xs.take x)) ∧ Blk wr w.heap.size 25 #[.int .i64 m.n, .slice (some P) m.n c, .slice (some Q) m.n d] ∧ Up w wr
set_option maxRecDepth 100000 in
set_option maxHeartbeats 8000000 in
theorem rwords6_any (m : Me) (P Q : Addr) (c d : Nat) (v : Value) (xs : List Int) (w : World) (hm : Sits w m P Q c d) (hwf : m.wf) (hx : Sl .u64 w v xs) (hu : ∀ x ∈ xs, U64 x) (hk : xs.length ≤ 1048576) :
    Calls Tryz.prog 52 #[mev m.n P Q c d, v] w fun e w' => e = .returned (.tuple #[.int .i64 (m.ows xs), .int .i64 (m.fws xs)]) ∧ Up w w' := by
  have HSI := Lib.hid (fun W (k : Up w W) => hm.up k)
  obtain ⟨A, cu, rfl⟩ := hx.slice
  have HRD := Lib.hid (fun W (k : Up w W) => rd_sl (hx.up k))
  have HUX := Lib.hid hu
  have HWF := Lib.hid hwf
  clear hm hx hu hwf
  obtain ⟨pn, hpn⟩ : ∃ pn, xs.length = pn := ⟨_, rfl⟩
  rw [hpn] at HRD hk ⊢
  have HPN := Lib.hid hpn
  clear hpn
  go_enter Tryz.func52, Tryz.ntmps52
  go_wp2_with (fail)
  go_loopw [6, 7, 8] (fun u6 u7 i wr => WoR m xs w P Q c d u6 u7 i wr) (fun _ _ i _ => pn - (intOf i).toNat)
  case atStart => exact ⟨0, Nat.zero_le _, rfl, rfl, rfl, Blk.new' _ rfl _ _, (Up.refl w).alloc _⟩
  case round =>
    rename World => wr
    obtain ⟨x, hx, rfl, rfl, rfl, bG, U⟩ := hrel
    rw [HPN.out] at hx
    have b1 := ows_small m (xs.take x)
    have b2 := fws_small m (xs.take x)
    have bl : (xs.take x).length ≤ 1048576 := by rw [List.length_take]; omega
    by_cases hlt : x < pn
    · have hlx : x < xs.length := by rw [HPN.out]; exact hlt
      have HST := Lib.hid (take_snoc' hlx)
      have hau := getD_u64 HUX.out x
      obtain ⟨W0, hW0⟩ : ∃ W0 : World, W0 = wr.drew := ⟨_, rfl⟩
      have U0 : Up W0 wr.drew := by rw [hW0]; exact Up.refl _
      have UW : Up wr W0 := by rw [hW0]; exact (Up.refl _).drew
      have M0 := bG.up UW
      have UU := U.trans UW
      have h4 := Lib.hid (fun (V : World) (hU : Up W0 V) => rat_any m (xs.getD x 0) P Q c d V (HSI.out V (UU.trans hU)) hau HWF.out)
      obtain ⟨p, e1, -⟩ := (HRD.out _ UU).at_ hlt
      subst e1
      have hat0 := Lib.hid (fun (V : World) (hV : Up W0 V) => by
        obtain ⟨p', e, h⟩ := (HRD.out _ (UU.trans hV)).at_ hlt
        cases e
        exact h : ∀ V, Up W0 V → V.cell? (p.add x) = some (.int .u64 (xs.getD x 0)))
      have hlp := lt_of_cell (hat0.out _ (Up.refl _))
      rw [block_of_add] at hlp
      have HSO : Hid (m.ows (xs.take (x + 1)) = m.ows (xs.take x) + m.ow (xs.getD x 0)) := Lib.hid (by rw [HST.out, ows_snoc])
      have HSF : Hid (m.fws (xs.take (x + 1)) = m.fws (xs.take x) + m.fw (xs.getD x 0)) := Lib.hid (by rw [HST.out, fws_snoc])
      have s1 := ow_small m (xs.getD x 0)
      have s2 := fw_small m (xs.getD x 0)
      have h5 := Lib.hid (fun (hx0 : m.ate (xs.getD x 0) = 0) (V : World) => rhwords_any (m.att (xs.getD x 0)) (m.atl (xs.getD x 0)) (m.atm (xs.getD x 0)) (at_rte hx0).2 (at_rte hx0).1 V)
      have HOW : Hid (∀ (hx0 : m.ate (xs.getD x 0) = 0), (m.att (xs.getD x 0) = 255 → m.ow (xs.getD x 0) = 0 ∧ m.fw (xs.getD x 0) = wdn (m.att (xs.getD x 0)) (m.atl (xs.getD x 0))) ∧ (m.att (xs.getD x 0) ≠ 255 → m.fw (xs.getD x 0) = 0 ∧ m.ow (xs.getD x 0) = wdn (m.att (xs.getD x 0)) (m.atl (xs.getD x 0)))) := Lib.hid (fun hx0 => ⟨fun k => ⟨if_neg (fun q => q.2 k), if_pos ⟨hx0, k⟩⟩, fun k => ⟨if_neg (fun q => k q.2), if_pos ⟨hx0, k⟩⟩⟩)
      have HOZ : Hid (m.ate (xs.getD x 0) ≠ 0 → m.ow (xs.getD x 0) = 0 ∧ m.fw (xs.getD x 0) = 0) := Lib.hid (fun k => ⟨if_neg (fun q => k q.1), if_neg (fun q => k q.1)⟩)
      have UB := Lib.hid UU
      clear hW0 HST hau U bG UW UU
      obtain ⟨so', e8⟩ : ∃ y, m.ows (xs.take (x + 1)) = y := ⟨_, rfl⟩
      obtain ⟨sf', e9⟩ : ∃ y, m.fws (xs.take (x + 1)) = y := ⟨_, rfl⟩
      rw [e8] at HSO
      rw [e9] at HSF
      have HE8 := Lib.hid e8
      have HE9 := Lib.hid e9
      clear e8 e9
      generalize m.ow (xs.getD x 0) = ow at *
      generalize m.fw (xs.getD x 0) = fw at *
      generalize xs.getD x 0 = a at *
      generalize m.ows (xs.take x) = so at *
      generalize m.fws (xs.take x) = sf at *
      generalize hae : m.ate a = xe at *
      generalize hat : m.att a = xt at *
      generalize hal : m.atl a = xl at *
      generalize ham : m.atm a = xm at *
      clear hat hal ham hae
      have UE : Up W0 (wr.alloc (.cells #[.int .i64 0, .int .i64 0, .int .u64 0] 69)).drew := U0.alloc _
      have hge : W0.heap.size ≤ wr.heap.size := U0.size
      go_wp2_with (fail)
      go_region_held3 (fun w' => (∀ i, w'.cell? ⟨w.heap.size, i, none⟩ = (#[.int .i64 m.n, .slice (some P) m.n c, .slice (some Q) m.n d] : Array Value)[i]?) ∧ w'.cell? (p.add x) = some (.int .u64 a))
        (first | exact ⟨fun i => (Blk.up M0 (by assumption)).cell i, hat0.out _ (by assumption)⟩ | exact ⟨fun i => (Blk.up M0 (Up.alloc (by assumption) _)).cell i, hat0.out _ (Up.alloc (by assumption) _)⟩ | exact ⟨fun i => (Blk.up M0 (Up.set3 (by assumption) hge _ _ _)).cell i, hat0.out _ (Up.set3 (by assumption) hge _ _ _)⟩)
        (first
          | (go_at_call 35; ((with_reducible refine (h4.out _ (by assumption)).mono ?_); rintro e wz ⟨rfl, hz⟩; have UZ := Up.trans (a := W0) (by assumption) hz; have HH := (Blk.new wr 69 #[.int .i64 0, .int .i64 0, .int .u64 0]).drew.up hz; have HHc := HH.cell; have HHf := HH.frozen; have HHl := HH.lt))
          | (go_at_call 35; ((with_reducible refine (h4.out _ (by assumption)).mono ?_); rintro e wz ⟨rfl, hz⟩; have UZ := Up.trans (a := W0) (by assumption) hz)))
      all_goals
        first
          | (have HG := HH.set3 (.int .i64 xt) (.int .i64 xl) (.int .u64 xm); have UY := UZ.set3 hge (.int .i64 xt) (.int .i64 xl) (.int .u64 xm)
             clear HHc HHf HHl HH hz UZ
             generalize (((wz.setCell ⟨wr.heap.size, 0, none⟩ (.int .i64 xt)).setCell ⟨wr.heap.size, 1, none⟩ (.int .i64 xl)).setCell ⟨wr.heap.size, 2, none⟩ (.int .u64 xm)) = wy at HG UY ⊢; generalize wr.heap.size = g at HG ⊢)
          | (have HG := Blk.new wz 69 #[.int .i64 xt, .int .i64 xl, .int .u64 xm]; have UY := UZ.alloc (.cells #[.int .i64 xt, .int .i64 xl, .int .u64 xm] 69)
             clear hz UZ
             generalize wz.alloc (.cells #[.int .i64 xt, .int .i64 xl, .int .u64 xm] 69) = wy at HG UY ⊢; generalize wz.heap.size = g at HG ⊢)
      all_goals
        have UF := Lib.hid (UB.out.trans UY)
        have BF := Lib.hid (M0.up UY)
        have HGc := HG.cell
        have HGl := HG.lt
        clear h4 hat0 UY U0 UE UB hge M0 HG hlp
        by_cases hx0 : xe = 0
        · subst hx0
          have h6 := Lib.hid (h5.out rfl)
          have hw := HOW.out rfl
          clear h5 HOW HOZ
          generalize wdn xt xl = nw at *
          by_cases ht : xt = 255
          · obtain ⟨q1, q2⟩ := hw.1 ht
            have ht2 : (xt == 255) = true := by simp [ht]
            have r1 : so' = so := by have := HSO.out; omega
            have r2 : sf' = sf + nw := by have := HSF.out; omega
            have HR := Lib.hid (And.intro r1 r2)
            clear hw ht r1 r2 HSO HSF
            have q3 : nw ≤ 65536 := by omega
            have q4 : 0 ≤ nw := by omega
            clear q1 q2
            go_wp2_with (fail)
            refine (h6.out _).mono ?_
            rintro e w6 ⟨rfl, k6⟩
            have UF2 := Lib.hid (UF.out.trans k6)
            have BF2 := Lib.hid (BF.out.up k6)
            clear k6
            go_wp2
            exact ⟨⟨x + 1, by rw [HPN.out]; omega, by go_num, by rw [HE8.out, HR.out.1], by rw [HE9.out, HR.out.2], BF2.out, UF2.out⟩, by simp [intOf]; omega⟩
          · obtain ⟨q1, q2⟩ := hw.2 ht
            have ht2 : (xt == 255) = false := by simp [ht]
            have r1 : so' = so + nw := by have := HSO.out; omega
            have r2 : sf' = sf := by have := HSF.out; omega
            have HR := Lib.hid (And.intro r1 r2)
            clear hw ht r1 r2 HSO HSF
            have q3 : nw ≤ 65536 := by omega
            have q4 : 0 ≤ nw := by omega
            clear q1 q2
            go_wp2_with (fail)
            refine (h6.out _).mono ?_
            rintro e w6 ⟨rfl, k6⟩
            have UF2 := Lib.hid (UF.out.trans k6)
            have BF2 := Lib.hid (BF.out.up k6)
            clear k6
            go_wp2
            exact ⟨⟨x + 1, by rw [HPN.out]; omega, by go_num, by rw [HE8.out, HR.out.1], by rw [HE9.out, HR.out.2], BF2.out, UF2.out⟩, by simp [intOf]; omega⟩
        · have hx2 : (xe == 0) = false := by simp [hx0]
          obtain ⟨q1, q2⟩ := HOZ.out hx0
          have r1 : so' = so := by have := HSO.out; omega
          have r2 : sf' = sf := by have := HSF.out; omega
          have HR := Lib.hid (And.intro r1 r2)
          clear h5 HOW HOZ hx0 r1 r2 HSO HSF q1 q2
          go_wp2
          exact ⟨⟨x + 1, by rw [HPN.out]; omega, by go_num, by rw [HE8.out, HR.out.1], by rw [HE9.out, HR.out.2], BF.out, UF.out⟩, by simp [intOf]; omega⟩
    · obtain rfl : x = pn := by omega
      have HU := Lib.hid U
      have HPA : Hid (xs.take x = xs) := Lib.hid (List.take_of_length_le (by rw [HPN.out]; exact Nat.le_refl _))
      clear bG U
      go_wp2
      go_ret2
      refine ⟨?_, HU.out⟩
      rw [HPA.out]
      rfl

/-! ### Rows, one behind the other -/
def JoR (L : List (List Int)) (w : World) (u i : Value) (wr : World) : Prop := ∃ x : Nat, x ≤ L.length ∧ i = .int .i64 x ∧ wr.ownsRow w.heap.size 67 1 u (L.take x).flatten.length ((L.take x).flatten.map (Value.int .u64)) ∧ Up w wr
theorem jflat_take {L : List (List Int)} {x : Nat} (h : x < L.length) : (L.take (x + 1)).flatten = (L.take x).flatten ++ L.getD x [] := by
  rw [List.take_add_one, List.getElem?_eq_getElem h, show L.getD x [] = L[x] from by simp [List.getD, List.getElem?_eq_getElem h]]
  show (L.take x ++ [L[x]]).flatten = _
  rw [List.flatten_append, List.flatten_singleton]
theorem jflat_le (L : List (List Int)) (x : Nat) : (L.take x).flatten.length ≤ L.flatten.length := by
  have : L.flatten = (L.take x).flatten ++ (L.drop x).flatten := by rw [← List.flatten_append, List.take_append_drop]
  rw [this]
  simp
set_option maxRecDepth 100000 in
set_option maxHeartbeats 4000000 in
theorem joined_any (v : Value) (L : List (List Int)) (w : World) (hL : Rw .u64 w v L) (hT : L.flatten.length ≤ 1048576) :
    Calls Tryz.prog 34 #[v] w (RmPost L.flatten w) := by
  have HRW := Lib.hid (fun W (k : Up w W) => hL.up k)
  obtain ⟨A, cu, rfl, hm⟩ := hL.slice
  unfold maxLen at hm
  clear hL
  obtain ⟨pn, hpn⟩ : ∃ pn, L.length = pn := ⟨_, rfl⟩
  rw [hpn] at HRW hm ⊢
  have HPN := Lib.hid hpn
  clear hpn
  go_enter Tryz.func34, Tryz.ntmps34
  go_wp2_with (fail)
  go_loopw [3, 4] (fun u i wr => JoR L w u i wr) (fun _ i _ => pn - (intOf i).toNat)
  case atStart => exact ⟨0, Nat.zero_le _, rfl, World.ownsRow_nil _ _ _ _, Up.refl _⟩
  case round =>
    rename World => wr
    obtain ⟨x, hx, rfl, hs, U⟩ := hrel
    rw [HPN.out] at hx
    by_cases hlt : x < pn
    · obtain ⟨p, u0, e1, hcl, hsl⟩ := (HRW.out wr U).at_ hlt
      subst e1
      have hlx : x < L.length := by rw [HPN.out]; exact hlt
      have HST := Lib.hid (jflat_take hlx)
      have hb1 := jflat_le L (x + 1)
      rw [HST.out, List.length_append] at hb1
      have hll := lt_of_cell hcl
      rw [block_of_add] at hll
      obtain ⟨A2, c2, rfl⟩ := hsl.slice
      obtain ⟨-, hrv, -, -, -⟩ := hsl.rv
      obtain ⟨v2, wb, hrun, ho2, hg, -⟩ := run_any el_u64 (w := wr) 22 w.heap.size _ _ _ hs A2 (L.getD x []).length c2 ((L.getD x []).map (Value.int .u64)) (by rw [List.length_map]; omega) hrv (one_ints _ _) (by omega) U.size
      have UB := Lib.hid (up_own U hs hg)
      have HO : Hid (wb.ownsRow w.heap.size 67 1 v2 (L.take (x + 1)).flatten.length ((L.take (x + 1)).flatten.map (Value.int .u64))) := Lib.hid (by rw [HST.out, List.map_append, List.length_append]; exact ho2)
      obtain ⟨A1, c1, rfl⟩ := own_slice hs
      generalize (L.take x).flatten.length = lt_ at *
      generalize (L.getD x []).length = lx at *
      clear hs U ho2 hg hsl hrv
      go_wp2_with (at_builtin; refine Lib.wpList_append_run _ rfl _ _ _ _ rfl _ _ rfl rfl _ _ hrun ?_)
      exact ⟨⟨x + 1, by rw [HPN.out]; omega, by go_num, HO.out, UB.out⟩, by simp [intOf]; omega⟩
    · obtain rfl : x = pn := by omega
      have HPA : Hid (L.take x = L) := Lib.hid (List.take_of_length_le (by rw [HPN.out]; exact Nat.le_refl _))
      have HS : Hid (Sl .u64 wr _ (L.take x).flatten) := Lib.hid (sl_ow hs rfl)
      have HU := Lib.hid U
      clear hs U
      go_wp2
      go_ret
      exact ⟨_, rfl, by have h := HS.out; rw [HPA.out] at h; exact h, HU.out⟩

/-! ### Places -/
/-- One more than a place; below 0: it isn't there. -/
def plm (l : List Int) (a : Int) : Int := if a = 0 then 0 else if a ∈ l then pl l a else -1
def PlM (l : List Int) (a : Int) (w : World) (i : Value) (wr : World) : Prop := ∃ x : Nat, x ≤ l.length ∧ i = .int .i64 x ∧ a ∉ l.take x ∧ wr = w
theorem idx_take {l : List Int} {a : Int} {x : Nat} (h : x < l.length) (k : a ∉ l.take x) (e : l.getD x 0 = a) : a ∈ l ∧ pl l a = x + 1 := by
  have hm : a ∈ l := by rw [← e]; exact getD_mem 0 h
  have h2 : l = l.take x ++ l.drop x := (List.take_append_drop x l).symm
  have hd : l.drop x = a :: l.drop (x + 1) := by
    rw [← e, show l.getD x 0 = l[x] from by simp [List.getD, List.getElem?_eq_getElem h], List.getElem_cons_drop]
  have hi : l.idxOf a = x := by
    rw [h2, List.idxOf_append, if_neg k, hd]
    simp
    omega
  exact ⟨hm, by unfold pl; rw [if_pos hm, hi]⟩
set_option maxRecDepth 100000 in
set_option maxHeartbeats 4000000 in
theorem rplacem_any (v : Value) (l : List Int) (a : Int) (w : World) (hx : Sl .u64 w v l) :
    Calls Tryz.prog 37 #[v, .int .u64 a] w fun e w' => e = .returned (.int .i64 (plm l a)) ∧ w = w' := by
  by_cases h0 : a = 0
  · subst h0
    rw [show plm l 0 = 0 from if_pos rfl]
    obtain ⟨A, cu, rfl⟩ := hx.slice
    clear hx
    generalize l.length = n at *
    go_enter Tryz.func37, Tryz.ntmps37
    go_wp2
    go_ret
    exact ⟨rfl, rfl⟩
  · have hb : (a == 0) = false := beq_eq_false_iff_ne.2 h0
    rw [show plm l a = if a ∈ l then pl l a else -1 from if_neg h0]
    have hm := hx.max
    unfold maxLen at hm
    obtain ⟨r, hr⟩ : ∃ r, (if a ∈ l then pl l a else -1) = r := ⟨_, rfl⟩
    rw [hr]
    have HRR := Lib.hid hr
    obtain ⟨A, cu, rfl⟩ := hx.slice
    have HX := Lib.hid hx
    clear hx h0 hr
    obtain ⟨n, hn⟩ : ∃ n, l.length = n := ⟨_, rfl⟩
    rw [hn] at HX hm ⊢
    have HN := Lib.hid hn
    clear hn
    go_enter Tryz.func37, Tryz.ntmps37
    go_wp2_with (fail)
    go_loopw [5] (fun i wr => PlM l a w i wr) (fun i _ => n - (intOf i).toNat)
    case atStart => exact ⟨0, Nat.zero_le _, rfl, by simp, rfl⟩
    case round =>
      obtain ⟨x, hxn, rfl, hno, rfl⟩ := hrel
      rw [HN.out] at hxn
      by_cases hlt : x < n
      · obtain ⟨p, rfl, hcl⟩ := HX.out.at_ hlt
        have hlx : x < l.length := by rw [HN.out]; exact hlt
        by_cases he : l.getD x 0 = a
        · have HI := Lib.hid (idx_take hlx hno he)
          have hbe : (l.getD x 0 == a) = true := by rw [he]; exact beq_self_eq_true a
          generalize l.getD x 0 = y at *
          clear hno he hlx
          go_wp2
          go_ret
          refine ⟨?_, rfl⟩
          rw [← HRR.out, if_pos HI.out.1, HI.out.2]
          rfl
        · have hbe : (l.getD x 0 == a) = false := beq_eq_false_iff_ne.2 he
          have HI : Hid (a ∉ l.take (x + 1)) := Lib.hid (by
            rw [take_snoc' hlx, List.mem_append, List.mem_singleton]
            exact fun q => q.elim hno (fun e => he e.symm))
          generalize l.getD x 0 = y at *
          clear hno he hlx
          go_wp2
          exact ⟨⟨x + 1, by rw [HN.out]; omega, by go_num, HI.out, rfl⟩, by simp [intOf]; omega⟩
      · obtain rfl : x = n := by omega
        have HI : Hid (a ∉ l) := Lib.hid (by rw [List.take_of_length_le (by rw [HN.out]; exact Nat.le_refl _)] at hno; exact hno)
        clear hno
        go_wp2
        go_ret
        refine ⟨?_, rfl⟩
        rw [← HRR.out, if_neg HI.out]
        rfl
end Go.Proofs.YtanhhkdoejnpiaaGreat.G
