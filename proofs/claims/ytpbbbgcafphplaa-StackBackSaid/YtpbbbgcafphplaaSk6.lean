/- Addresses are turned into others, and rows compared, by definition (the document's Turn and Rows): contracts. -/
import Derived.Test.YtpbbbgcafphplaaSk5
namespace Go.Proofs.Ytpbbbgcafphplaa
open Go.Joins Go.ChangeShapes Go.WideShapes Go.ChangeAt Go.RowKit Go.Deep Go.Shelf Go.Maps
set_option linter.unusedVariables false
set_option linter.unusedSimpArgs false

/-- What an address becomes, where the places from i on are those of a row. -/
def seek (ts : List Int) (a : Int) : List Int → Nat → Int
  | [], _ => a
  | f :: r, i => if f = a then (if i < ts.length then ts.getD i 0 else a) else seek ts a r (i + 1)
theorem seek_is (ts : List Int) (a : Int) : ∀ (l : List Int) (i : Nat), seek ts a l i = if a ∈ l ∧ i + l.idxOf a < ts.length then ts.getD (i + l.idxOf a) 0 else a
  | [], i => by simp [seek]
  | f :: r, i => by
    unfold seek
    by_cases h : f = a
    · subst h
      simp
    · rw [if_neg h, seek_is ts a r (i + 1)]
      have h1 : (f :: r).idxOf a = r.idxOf a + 1 := by rw [List.idxOf_cons, cond_eq_ite, if_neg (by simpa using h)]
      rw [h1, show i + 1 + r.idxOf a = i + (r.idxOf a + 1) from by omega]
      have : (a ∈ f :: r) ↔ a ∈ r := by simp [Ne.symm h]
      simp only [this]
theorem seek_tof (fs ts : List Int) (a : Int) : seek ts a fs 0 = tof fs ts a := by
  rw [seek_is]
  unfold tof
  have hi : a ∈ fs.take (min fs.length ts.length) → (fs.take (min fs.length ts.length)).idxOf a = fs.idxOf a := fun h => by
    have e := List.idxOf_append (l₁ := fs.take (min fs.length ts.length)) (l₂ := fs.drop (min fs.length ts.length)) (a := a)
    rw [List.take_append_drop, if_pos h] at e
    exact e.symm
  by_cases h : a ∈ fs.take (min fs.length ts.length)
  · rw [if_pos h, hi h, if_pos ⟨List.mem_of_mem_take h, by have := idx_lt h; rw [hi h] at this; omega⟩, Nat.zero_add]
  · rw [if_neg h, if_neg (fun q => h ?_)]
    have hl := List.idxOf_lt_length_iff.2 q.1
    have hg : fs[fs.idxOf a] = a := List.getElem_idxOf hl
    have : fs[fs.idxOf a]? = some a := by rw [List.getElem?_eq_getElem hl, hg]
    have h2 : (fs.take (min fs.length ts.length))[fs.idxOf a]? = some a := by
      rw [List.getElem?_take, if_pos (by have := q.2; omega)]
      exact this
    exact List.mem_of_getElem? h2
theorem seek_step (ts : List Int) (a : Int) (fs : List Int) {m : Nat} (h : m < fs.length) : seek ts a (fs.drop m) m = if fs.getD m 0 = a then (if m < ts.length then ts.getD m 0 else a) else seek ts a (fs.drop (m + 1)) (m + 1) := by
  rw [drop_one 0 h]
  rfl

/-- Rows of the call's own: each in words of its own. -/
def Own (w : World) (n₀ : Nat) (v : Value) (us : List Value) (K : List (List Int)) : Prop :=
  w.ownsRow n₀ 22 1 v us.length us ∧ us.length = K.length ∧ ∀ (j : Nat) (u : Value) (xs : List Int), us[j]? = some u → K[j]? = some xs → Lo w n₀ u xs
theorem Own.nil (w : World) (n₀ : Nat) : Own w n₀ (.slice none 0 0) [] [] := ⟨World.ownsRow_nil _ _ _ _, rfl, fun j u xs h => by cases h⟩
theorem Own.up {w w' : World} {n₀ : Nat} {v : Value} {us : List Value} {K : List (List Int)} (h : Own w n₀ v us K) (k : Up w w') : Own w' n₀ v us K :=
  ⟨World.ownsRow.kept h.1 k.gb (by
    cases e : v.ownBlock with
    | none => exact .inl rfl
    | some g => exact .inr (by simp)), h.2.1, fun j u xs h1 h2 => (h.2.2 j u xs h1 h2).up k⟩
theorem lo_ne_rows {w : World} {n₀ n₁ k : Nat} {u v : Value} {xs : List Int} {us : List Value} (h : Lo w n₀ u xs) (h' : w.ownsRow n₁ 22 1 v k us) : u.ownBlock = none ∨ u.ownBlock ≠ v.ownBlock := by
  rcases h.2 with ⟨rfl, _⟩ | ⟨g, cap, cur, rfl, _, hg, _⟩
  · exact .inl rfl
  · refine .inr (fun e => ?_)
    rcases h'.2 with ⟨rfl, _⟩ | ⟨g', cap', cur', rfl, _, hg', _⟩
    · simp [Value.ownBlock] at e
    · obtain rfl : g = g' := by simpa [Value.ownBlock] using e
      rw [hg] at hg'
      injection hg' with e2
      injection e2 with _ e3
      exact absurd e3 (by decide)
/-- One row more. -/
theorem Own.snoc {w w' : World} {n₀ : Nat} {v v' u : Value} {us : List Value} {K : List (List Int)} {xs : List Int} (h : Own w n₀ v us K) (hu : Lo w n₀ u xs) (hr : w'.ownsRow n₀ 22 1 v' (us.length + 1) (us ++ [u])) (hg : w.grownBy w' v.ownBlock) : Own w' n₀ v' (us ++ [u]) (K ++ [xs]) := by
  refine ⟨by simpa using hr, by simp [h.2.1], fun j y ys h1 h2 => ?_⟩
  by_cases hj : j < us.length
  · rw [List.getElem?_append_left hj] at h1
    rw [List.getElem?_append_left (by rw [← h.2.1]; exact hj)] at h2
    have hl := h.2.2 j y ys h1 h2
    exact World.ownsRow.kept hl hg (lo_ne_rows hl h.1)
  · rw [List.getElem?_append_right (by omega)] at h1
    rw [List.getElem?_append_right (by rw [← h.2.1]; omega), ← h.2.1] at h2
    obtain ⟨d, hd⟩ : ∃ d, j - us.length = d := ⟨_, rfl⟩
    rw [hd] at h1 h2
    cases d with
    | zero =>
      cases h1
      cases h2
      exact World.ownsRow.kept hu hg (lo_ne_rows hu h.1)
    | succ d => cases h1
theorem Own.rw {w : World} {n₀ : Nat} {v : Value} {us : List Value} {K : List (List Int)} (h : Own w n₀ v us K) : Rw w v K := by
  obtain ⟨⟨hl, hc⟩, h1, h2⟩ := h
  rcases hc with ⟨rfl, h0⟩ | ⟨g, cap, cur, rfl, hb, hg, h3, h4, h5, h6⟩
  · have hK : K = [] := List.eq_nil_of_length_eq_zero (by omega)
    subst hK
    exact ⟨none, 0, rfl, Nat.le_refl _, Nat.zero_le _, fun _ => rfl, fun q => absurd q (by simp)⟩
  · refine ⟨some ⟨g, 0, none⟩, cap, by rw [h1], by omega, h4, fun q => (by cases q), fun q => ⟨_, rfl, (Array.getElem?_eq_some_iff.1 hg).1, fun j xs hj => ?_⟩⟩
    have hjl : j < us.length := by
      rw [h1]
      rcases Nat.lt_or_ge j K.length with q | q
      · exact q
      · rw [List.getElem?_eq_none q] at hj; cases hj
    refine ⟨us[j], ?_, Sl.of_lo (h2 j _ xs (List.getElem?_eq_getElem hjl) hj)⟩
    rw [add_zero', cell_of_row w g j cur _ (0, 0) hg]
    have e : us[j]? = some us[j] := List.getElem?_eq_getElem hjl
    have e2 : (cur.toList.take (us.length * 1))[j]? = us[j]? := by rw [h6]
    rw [List.getElem?_take, if_pos (by omega), e] at e2
    simpa using e2
def OutRel (w : World) (n : Nat) (L : List (List Int)) (g : List Int → List Int) (u7 u8 : Value) (wr : World) : Prop :=
  ∃ (x : Nat) (us : List Value), x ≤ n ∧ u8 = .int .i64 x ∧ Own wr w.heap.size u7 us ((L.take x).map g) ∧ Up w wr
def MidRel (wb : World) (k : Nat) (xs : List Int) (f : Int → Int) (u9 u10 : Value) (wr : World) : Prop :=
  ∃ h : Nat, h ≤ k ∧ u10 = .int .i64 h ∧ Lo wr wb.heap.size u9 ((xs.take h).map f) ∧ Up wb wr
def LowRel (wc : World) (fs ts : List Int) (a : Int) (nf : Nat) (u11 u12 : Value) (wr : World) : Prop :=
  ∃ m : Nat, m ≤ nf ∧ u12 = .int .i64 ((m : Int) - 1) ∧ u11 = .int .u64 (seek ts a (fs.drop m) m) ∧ Up wc wr
set_option maxRecDepth 100000 in
set_option maxHeartbeats 8000000 in
theorem rturn_any (v f t : Value) (L : List (List Int)) (fs ts : List Int) (w : World) (hL : Rw w v L) (hf : Sl w f fs) (ht : Sl w t ts) (hF : Fit L) : Calls Try.prog 25 #[v, f, t] w (RwPost (turned fs ts L) w) := by
  have hL0 := hL
  have hf0 := hf
  have ht0 := ht
  have hLm := hL.max
  have hfm := hf.max
  have htm := ht.max
  obtain ⟨A, c, rfl, -⟩ := hL
  obtain ⟨Af, cf, rfl, -⟩ := hf
  obtain ⟨At, ct, rfl, -⟩ := ht
  have HL := Lib.hid hL0
  have HFS := Lib.hid hf0
  have HT := Lib.hid ht0
  have HF := Lib.hid hF
  obtain ⟨i0, hi, hz0, hz1, hz2⟩ := info_parts info_u64
  obtain ⟨i1, hi', hz0', hz1', hz2'⟩ := info_parts info_words
  clear hL0 hf0 ht0 hF
  generalize hn : L.length = n at *
  generalize hnt : ts.length = nt at *
  generalize hnf : fs.length = nf at *
  have HN := Lib.hid hn
  have HNT := Lib.hid hnt
  have HNF := Lib.hid hnf
  clear hn hnt hnf
  unfold maxLen at *
  go_enter Try.func25, Try.ntmps25
  go_wp2_with (fail)
  go_loopw [7, 8] (fun u7 u8 wr => OutRel w n L (fun xs => xs.map (tof fs ts)) u7 u8 wr) (fun _ u8 _ => n - (intOf u8).toNat)
  case atStart => exact ⟨0, [], Nat.zero_le _, rfl, Own.nil _ _, Up.refl _⟩
  case round =>
    rename World => wb
    obtain ⟨x, us, hxn, rfl, hOw, hU⟩ := hrel
    by_cases hlt : x < n
    · obtain ⟨p, u, rfl, hcu, hsu⟩ := (HL.out.up hU).at_ hlt
      have hlx : x < L.length := by rw [HN.out]; exact hlt
      have hxl := HF.out.l _ (getD_mem [] hlx)
      have TS := Lib.hid (take_one [] hlx)
      have hLl := HF.out.n
      rw [HN.out] at hLl
      generalize L.getD x [] = xs at hsu hxl TS
      have HSU := Lib.hid hsu
      have HCU := Lib.hid hcu
      obtain ⟨Au, cu, rfl, -⟩ := hsu
      have hxm := HSU.out.max
      generalize hk : xs.length = k at *
      have HK := Lib.hid hk
      unfold maxLen at hxm
      have HOw := Lib.hid hOw
      have HUp := Lib.hid hU
      have hzl : w.heap.size ≤ wb.heap.size := hU.size
      clear hOw hU hcu hk
      go_wp2_with (fail)
      go_loopw [9, 10] (fun u9 u10 wr => MidRel wb k xs (tof fs ts) u9 u10 wr) (fun _ u10 _ => k - (intOf u10).toNat)
      case atStart => exact ⟨0, Nat.zero_le _, rfl, Lo.nil _ _, Up.refl _⟩
      case round =>
        rename World => wc
        obtain ⟨h, hhk, rfl, hlo, hUm⟩ := hrel
        have hcu := hUm.cell HCU.out
        by_cases hh : h < k
        · obtain ⟨pu, rfl, hca⟩ := (HSU.out.up hUm).rd.at_ hh
          have hlh : h < xs.length := by rw [HK.out]; exact hh
          have TX := Lib.hid (take_one 0 hlh)
          generalize xs.getD h 0 = a at hca TX
          have HLO := Lib.hid hlo
          have HUM := Lib.hid hUm
          have HCA := Lib.hid hca
          have HCU2 := Lib.hid hcu
          clear hlo hUm
          go_wp2_with (fail)
          clear hca hcu
          go_loopw [11, 12] (fun u11 u12 wr => LowRel wc fs ts a nf u11 u12 wr) (fun _ u12 _ => (intOf u12 + 1).toNat)
          case atStart => exact ⟨nf, Nat.le_refl _, rfl, by rw [List.drop_of_length_le (by rw [HNF.out]; exact Nat.le_refl _)]; rfl, Up.refl _⟩
          case round =>
            rename World => wd
            obtain ⟨m, hmn, rfl, rfl, hUl⟩ := hrel
            have hcu := hUl.cell HCU2.out
            have hca := hUl.cell HCA.out
            cases m with
            | zero =>
              have HE : Hid (seek ts a (fs.drop 0) 0 = tof fs ts a) := Lib.hid (by rw [List.drop_zero]; exact seek_tof fs ts a)
              rw [HE.out]
              have e0 : ((0 : Nat) : Int) - 1 = -1 := by decide
              rw [e0]
              have hlo4 := HLO.out.up hUl
              have hu4 := HUM.out.trans hUl
              have hsz := (hu4.alloc (.cells #[.int .u64 (tof fs ts a)] 23)).size
              have hll : ((xs.take h).map (tof fs ts)).length = h := by simp; omega
              have TX2 : Hid ((xs.take (h + 1)).map (tof fs ts) = (xs.take h).map (tof fs ts) ++ [tof fs ts a]) := Lib.hid (by rw [TX.out, List.map_append]; rfl)
              have HU4 := Lib.hid hu4
              have HLL := Lib.hid hll
              generalize tof fs ts a = d at *
              generalize (xs.take h).map (tof fs ts) = ls at *
              clear hUl hu4 hcu hca
              have hlb : ls.length + 1 ≤ 17592186044416 := by omega
              clear hll
              go_wp2_with (at_builtin; refine wpList_own rfl _ _ rfl wb.heap.size _ ls rfl (World.ownsRow.alloc hlo4 _) ⟨wd.heap.size, 0, none⟩ [d] 1 1 rfl rfl (Blk.row (xs := [d]) (Blk.new _ _ _)) (by omega) hlb hsz ?_; intro g cap w5 hown hg)
              have HUE := Lib.hid (Up.own (HU4.out.alloc _) (World.ownsRow.alloc hlo4 _) hg)
              have HOE := Lib.hid hown
              clear hown hg hlo4
              refine ⟨⟨h + 1, by omega, by go_num, by rw [TX2.out]; exact HOE.out, HUE.out⟩, by simp [intOf]; omega⟩
            | succ m =>
              have e0 : ((m + 1 : Nat) : Int) - 1 = (m : Int) := by omega
              rw [e0]
              have hlm : m < fs.length := by rw [HNF.out]; omega
              obtain ⟨pf, rfl, hcf⟩ := (HFS.out.up ((HUp.out.trans HUM.out).trans hUl)).rd.at_ (show m < nf by omega)
              have HST := Lib.hid (seek_step ts a fs hlm)
              rw [HNT.out] at HST
              have HUl := Lib.hid hUl
              generalize fs.getD m 0 = b at hcf HST
              generalize seek ts a (fs.drop (m + 1)) (m + 1) = s1 at HST ⊢
              by_cases hb : b = a
              · subst hb
                rw [if_pos rfl] at HST
                by_cases hmt : m < nt
                · rw [if_pos hmt] at HST
                  obtain ⟨pt, rfl, hct⟩ := (HT.out.up ((HUp.out.trans HUM.out).trans hUl)).rd.at_ hmt
                  generalize ts.getD m 0 = d at hct HST
                  clear hUl
                  go_wp2_with (fail)
                  go_region
                  go_wp2
                  exact ⟨⟨m, by omega, rfl, by rw [HST.out], HUl.out.drew⟩, by simp [intOf]⟩
                · rw [if_neg hmt] at HST
                  clear hUl
                  go_wp2_with (fail)
                  go_region
                  go_wp2
                  exact ⟨⟨m, by omega, rfl, by rw [HST.out], HUl.out.drew⟩, by simp [intOf]⟩
              · rw [if_neg hb] at HST
                have hbb : (b == a) = false := beq_eq_false_iff_ne.2 hb
                clear hUl
                go_wp2_with (fail)
                go_region
                go_wp2
                exact ⟨⟨m, by omega, rfl, by rw [HST.out], HUl.out.drew⟩, by simp [intOf]⟩
        · obtain rfl : h = k := by omega
          rw [List.take_of_length_le (by rw [HK.out]; exact Nat.le_refl _)] at hlo
          have hOw := HOw.out.up hUm
          have hu4 := HUp.out.trans hUm
          have hlo2 : Lo wc w.heap.size u9 (xs.map (tof fs ts)) := Lo.le hlo hzl
          have hsz := (hu4.alloc (.cells #[u9] 22)).size
          have hul : us.length = x := by rw [hOw.2.1]; simp; omega
          have hlb : us.length + 1 ≤ 5864062014805 := by omega
          have TS2 : Hid ((L.take (x + 1)).map (fun xs => xs.map (tof fs ts)) = (L.take x).map (fun xs => xs.map (tof fs ts)) ++ [xs.map (tof fs ts)]) := Lib.hid (by rw [TS.out, List.map_append]; rfl)
          have hu9 : ∃ A n c, u9 = .slice A n c := (Sl.of_lo hlo).slice
          obtain ⟨A9, n9, c9, rfl⟩ := hu9
          have HUL := Lib.hid hul
          have HOW := Lib.hid (hOw.up ((Up.refl wc).alloc (.cells #[.slice A9 n9 c9] 22)))
          have HLO := Lib.hid (hlo2.up ((Up.refl wc).alloc (.cells #[.slice A9 n9 c9] 22)))
          have HU4 := Lib.hid (hu4.alloc (.cells #[.slice A9 n9 c9] 22))
          clear hOw hu4 hlo hlo2 hUm hul
          go_wp2_with (at_builtin; refine wpList_append_own_at _ rfl _ _ 24 rfl w.heap.size 22 i1 (.slice none 0 0) 1 24 Try.underlying24 hi' hz0' hz1' hz2' rfl (by decide) _ _ _ rfl HOW.out.1 ⟨wc.heap.size, 0, none⟩ 1 1 [.slice A9 n9 c9] rfl rfl (cell_one_new _ _ _) (by simp [Value.oneCell']) (by unfold maxLen; omega) (by omega) hsz ?_; intro v' w5 hown hg _ hloc)
          have HOE := Lib.hid (HOW.out.snoc HLO.out hown hg)
          have HUE := Lib.hid (HU4.out.grown hg (fun k e => (World.ownsRow.lt HOW.out.1 k e).1))
          clear hown hg hloc
          go_wp2
          exact ⟨⟨x + 1, _, by omega, by go_num, by rw [TS2.out]; exact HOE.out, HUE.out⟩, by simp [intOf]; omega⟩
    · obtain rfl : x = n := by omega
      rw [List.take_of_length_le (by rw [HN.out]; exact Nat.le_refl _)] at hOw
      have HR := Lib.hid hOw.rw
      have hv : ∃ A n c, u7 = .slice A n c := by
        obtain ⟨A, c, e, _⟩ := HR.out
        exact ⟨_, _, _, e⟩
      obtain ⟨A7, n7, c7, rfl⟩ := hv
      have HU := Lib.hid hU
      clear hU hOw
      go_wp2
      go_ret
      exact ⟨_, rfl, HR.out, HU.out⟩

set_option maxHeartbeats 2000000 in
theorem rrows_len (A B : Option Addr) (n k c d : Nat) (w : World) (hnk : n ≠ k) :
    Calls Try.prog 23 #[.slice A n c, .slice B k d] w fun e w' => e = .returned (.bool false) ∧ Up w w' := by
  have hb : ((n : Int) != (k : Int)) = true := bne_iff_ne.mpr (by omega)
  clear hnk
  go_enter Try.func23, Try.ntmps23
  go_wp2
  go_ret
  exact ⟨rfl, Up.refl _⟩
def RrRel (w : World) (L K : List (List Int)) (n : Nat) (i : Value) (wr : World) : Prop := ∃ x : Nat, x ≤ n ∧ i = .int .i64 x ∧ L.take x = K.take x ∧ Up w wr
set_option maxHeartbeats 4000000 in
theorem rrows_same (A B : Option Addr) (n c d : Nat) (L K : List (List Int)) (w : World) (hL : Rw w (.slice A n c) L) (hK : Rw w (.slice B n d) K) (hl : L.length = n) (hk : K.length = n) :
    Calls Try.prog 23 #[.slice A n c, .slice B n d] w fun e w' => e = .returned (.bool (decide (L = K))) ∧ Up w w' := by
  have hm := hL.max
  rw [hl] at hm
  have HL := Lib.hid hL
  have HK := Lib.hid hK
  have Ll := Lib.hid hl
  have Lk := Lib.hid hk
  unfold maxLen at hm
  generalize hB : decide (L = K) = bo
  have HB := Lib.hid hB
  clear hL hK hl hk hB
  go_enter Try.func23, Try.ntmps23
  go_wp2
  go_loopw [5] (fun i wr => RrRel w L K n i wr) (fun i _ => n - (intOf i).toNat)
  case atStart => exact ⟨0, Nat.zero_le _, rfl, rfl, Up.refl _⟩
  case round =>
    rename World => wb
    obtain ⟨x, hx, rfl, ht, U⟩ := hrel
    have HT := Lib.hid ht
    clear ht
    by_cases hlt : x < n
    · obtain ⟨p, u, rfl, hcp, hu⟩ := (HL.out.up U).at_ hlt
      obtain ⟨q, v, rfl, hcq, hv⟩ := (HK.out.up U).at_ hlt
      have hlL : x < L.length := by rw [Ll.out]; exact hlt
      have hlK : x < K.length := by rw [Lk.out]; exact hlt
      have TL := Lib.hid (take_one [] hlL)
      have TK := Lib.hid (take_one [] hlK)
      have TN : Hid (L.getD x [] ≠ K.getD x [] → L ≠ K) := Lib.hid (fun h e => h (by rw [e]))
      generalize L.getD x [] = xs at hu TL TN
      generalize K.getD x [] = ys at hv TK TN
      have hw := Lib.hid (fun (W : World) (h : Up wb W) => words_any' u v xs ys W (hu.up h) (hv.up h))
      obtain ⟨Au, cu, rfl, -⟩ := hu
      obtain ⟨Av, cv, rfl, -⟩ := hv
      generalize xs.length = k1 at *
      generalize ys.length = k2 at *
      obtain ⟨W1, hW1⟩ : ∃ W1 : World, W1 = wb.drew := ⟨_, rfl⟩
      have HW1 := Lib.hid hW1
      have U1 : Up wb W1 := by rw [hW1]; exact (Up.refl wb).drew
      clear hW1
      go_wp2_with (fail)
      refine region_tail 8 (by kernel_rfl) (by kernel_rfl) W1 HW1.out ?_
      have hcp1 := U1.cell hcp
      have hcq1 := U1.cell hcq
      clear hcp hcq
      simp only [List.take_succ_cons, List.take_zero, List.drop_succ_cons, List.drop_zero]
      repeat still_step
      refine wpStill_nil ?_
      go_wp2_with (fail)
      refine (hw.out _ U1).mono ?_
      rintro e w1 ⟨rfl, h1⟩
      have U2 := Lib.hid (U.trans (U1.trans h1))
      clear h1 U1 hcp1 hcq1 U hw
      by_cases e : xs = ys
      · subst e
        rw [decide_eq_true rfl]
        have HT2 : Hid (L.take (x + 1) = K.take (x + 1)) := Lib.hid (by rw [TL.out, TK.out, HT.out])
        clear TL TK TN
        go_wp2
        exact ⟨⟨x + 1, by omega, by go_num, HT2.out, U2.out⟩, by simp [intOf]; omega⟩
      · rw [decide_eq_false e]
        have hne := TN.out e
        clear TL TK TN
        go_wp2
        go_ret
        exact ⟨show Ending.returned (.bool false) = .returned (.bool bo) from by rw [← HB.out, decide_eq_false hne], U2.out⟩
    · obtain rfl : n = x := by omega
      go_wp2
      go_ret
      have h := HT.out
      rw [List.take_of_length_le (by rw [Ll.out]; exact Nat.le_refl _), List.take_of_length_le (by rw [Lk.out]; exact Nat.le_refl _)] at h
      exact ⟨show Ending.returned (.bool true) = .returned (.bool bo) from by rw [← HB.out, decide_eq_true h], U⟩
theorem rrows_any (u v : Value) (L K : List (List Int)) (w : World) (hL : Rw w u L) (hK : Rw w v K) :
    Calls Try.prog 23 #[u, v] w fun e w' => e = .returned (.bool (decide (L = K))) ∧ Up w w' := by
  have hL0 := hL
  have hK0 := hK
  obtain ⟨A, c, rfl, -⟩ := hL
  obtain ⟨B, d, rfl, -⟩ := hK
  by_cases h : L.length = K.length
  · rw [← h] at hK0 ⊢
    exact rrows_same A B _ c d L K w hL0 hK0 rfl h.symm
  · rw [decide_eq_false (fun e => h (by rw [e]))]
    exact rrows_len A B _ _ c d w h
end Go.Proofs.Ytpbbbgcafphplaa
