/- The statement LogBack is proved for every input, from contracts of the functions that it calls; no condition is added. -/
import Derived.Test.YtgofejhjnbnecaaEn10
import Derived.BigQuiet
namespace Go.Proofs.Ytgofejhjnbnecaa.LLogBack
open Go.Joins Go.ChangeShapes Go.Shelf Go.Maps Go.WideShapes Go.ChangeAt Go.RowKit Go.Deep
set_option linter.unusedVariables false
set_option linter.unusedSimpArgs false

theorem ads_step {xs : List Ent} {x : Nat} (h : x < xs.length) (h64 : x < 64) : ads (xs.take x) (xs.getD x (0, 0)) 64 = xs.take (x + 1) ∧ ade (xs.take x) 64 = 0 := by
  have hl : (xs.take x).length = x := by rw [List.length_take]; omega
  unfold ads ade
  rw [hl, if_pos ⟨by omega, h64⟩, if_pos ⟨by omega, h64⟩, take_one (0, 0) h]
  exact ⟨rfl, rfl⟩
theorem ads_full {xs : List Ent} {x : Nat} (h : x < xs.length) (h64 : x = 64) (a : Ent) : ads (xs.take x) a 64 = xs.take x ∧ ade (xs.take x) 64 = 4 := by
  have hl : (xs.take x).length = x := by rw [List.length_take]; omega
  unfold ads ade
  rw [hl, if_neg (by omega), if_neg (by omega)]
  exact ⟨rfl, rfl⟩
def ARel (w : World) (xs : List Ent) (N : Nat) (u4 u5 u6 : Value) (wr : World) : Prop := ∃ x : Nat, x ≤ N ∧ u5 = .int .i64 x ∧ u6 = .int .i64 x ∧ Sl wr u4 (xs.take x) ∧ Up w wr
def FRel (w : World) (ys : List Ent) (N : Nat) (u4 u9 : Value) (wr : World) : Prop := ∃ x : Nat, x ≤ N ∧ u9 = .int .i64 x ∧ Sl wr u4 (ys.drop x) ∧ Up w wr
set_option maxRecDepth 100000 in
set_option maxHeartbeats 4000000 in
theorem walk_few (v : Value) (xs : List Ent) (w : World) (hx : Sl w v xs) (h64 : xs.length ≤ 64) :
    Calls Try.prog 4 #[v] w (fun e w' => e = .returned (.bool true) ∧ Up w w') := by
  have HX := Lib.hid hx
  have hm := hx.max
  obtain ⟨A, c, rfl, -⟩ := hx
  generalize hn : xs.length = n at *
  have HN := Lib.hid hn
  unfold maxLen at hm
  clear hn
  go_enter Try.func4, Try.ntmps4
  go_wp2_with (fail)
  refine (shown_any _).mono ?_
  rintro e w1 ⟨rfl, U1⟩
  have HU1 := Lib.hid U1
  clear U1
  go_wp2_with (fail)
  go_loopw [4, 5, 6] (fun u4 u5 u6 wr => ARel w xs n u4 u5 u6 wr) (fun _ _ i _ => n - (intOf i).toNat)
  case atStart => exact ⟨0, Nat.zero_le _, rfl, rfl, Sl.nil _, HU1.out⟩
  case round =>
    rename World => wa
    obtain ⟨x, hxn, rfl, rfl, hs, hU⟩ := hrel
    by_cases hlt : x < n
    · obtain ⟨p, rfl, hcp, hcp2⟩ := (HX.out.up hU).rd.at_ (x := x) (by omega)
      have hst := ads_step (xs := xs) (x := x) (by rw [HN.out]; omega) (by omega)
      have ha := add_any u4 (xs.take x) (xs.getD x (0, 0)) 64 wa hs
      rw [hst.1, hst.2] at ha
      have HA := Lib.hid ha
      generalize xs.getD x (0, 0) = z at *
      obtain ⟨z1, z2⟩ := z
      simp only [] at hcp hcp2
      obtain ⟨A4, c4, rfl, -⟩ := hs
      generalize (xs.take x).length = lx at *
      have HUa := Lib.hid hU
      clear hst ha hU
      go_wp2_with (fail)
      refine HA.out.mono ?_
      rintro e w2 ⟨q, rfl, hsq, k2⟩
      have HSQ := Lib.hid hsq
      have HU2 := Lib.hid (HUa.out.trans k2)
      obtain ⟨A5, c5, rfl, -⟩ := hsq
      generalize (xs.take (x + 1)).length = lq at *
      clear k2
      go_wp2_with (fail)
      exact ⟨⟨x + 1, by omega, by go_num, by go_num, HSQ.out, HU2.out⟩, by simp [intOf]; omega⟩
    · obtain rfl : x = n := by omega
      have HU0 := Lib.hid hU
      have HS0 : Hid (Sl wa u4 ((xs.take x).drop 0)) := Lib.hid (by rw [List.drop_zero]; exact hs)
      have hlx : (xs.take x).length = x := by rw [List.length_take, HN.out]; omega
      obtain ⟨A4, c4, rfl, -⟩ := hs
      rw [hlx] at *
      clear hU hlx
      go_wp2_with (fail)
      go_loopw [4, 9] (fun u4 u9 wr => FRel w (xs.take x) x u4 u9 wr) (fun _ i _ => x - (intOf i).toNat)
      case atStart => exact ⟨0, Nat.zero_le _, rfl, HS0.out, HU0.out⟩
      case round =>
        rename World => wb
        obtain ⟨y, hy, rfl, hs, hU⟩ := hrel
        have hyl : ((xs.take x).drop y).length = x - y := by rw [List.length_drop, List.length_take, HN.out]; omega
        by_cases hlt2 : y < x
        · obtain ⟨px, ep, hcx, hcx2⟩ := (HX.out.up hU).rd.at_ (x := y) (by omega)
          cases ep
          have hg0 : ((xs.take x).drop y).getD 0 (0, 0) = xs.getD y (0, 0) := by
            simp only [List.getD]
            rw [List.getElem?_drop, Nat.add_zero, List.getElem?_take_of_lt hlt2]
          have hne : decide ((xs.take x).drop y ≠ []) = true := decide_eq_true (fun q => by rw [q] at hyl; simp at hyl; omega)
          have htl : ((xs.take x).drop y).tail = (xs.take x).drop (y + 1) := by rw [List.tail_drop]
          have hyl2 : ((xs.take x).drop (y + 1)).length = x - y - 1 := by rw [List.length_drop, List.length_take, HN.out]; omega
          have h1 := first_any u4 _ wb hs (by omega)
          unfold FiPost at h1
          rw [hg0, hne, htl] at h1
          have H1 := Lib.hid h1
          generalize hgz : xs.getD y (0, 0) = z at *
          generalize hys : (xs.take x).drop (y + 1) = ys2 at *
          have HYS := Lib.hid hys
          obtain ⟨A4, c4, e4, -⟩ := hs
          rw [hyl] at e4
          subst e4
          obtain ⟨z1, z2⟩ := z
          simp only [] at hcx hcx2
          have he := ne_ent z1 z2 z1 z2
          rw [show bE z1 z2 z1 z2 = true from by rw [bE_eq, decide_eq_true rfl]] at he
          have HUb := Lib.hid hU
          have HYL := Lib.hid hyl2
          have hlp := lt_of_cell hcx
          clear hg0 hne htl hyl hyl2 hgz h1 hU hys
          go_wp2_with (fail)
          refine H1.out.mono ?_
          rintro e w2 ⟨q, rfl, hsq, k2⟩
          have hcy := (Below.cell (k2.alloc (.cells #[.int .u64 z1, .int .i64 z2] 25)) hlp).trans hcx
          have hcy2 := (Below.cell (p := nxt _) (k2.alloc (.cells #[.int .u64 z1, .int .i64 z2] 25)) hlp).trans hcx2
          have U2 := (HUb.out.trans k2).alloc (.cells #[.int .u64 z1, .int .i64 z2] 25)
          have hsq2 := hsq.up ((Up.refl w2).alloc (.cells #[.int .u64 z1, .int .i64 z2] 25))
          have hB := Blk.new w2 25 #[.int .u64 z1, .int .i64 z2]
          have hBc := hB.cell
          have HSQ := Lib.hid hsq2
          have HU2 := Lib.hid U2
          obtain ⟨A5, c5, e5, -⟩ := hsq
          rw [HYL.out] at e5
          subst e5
          clear hsq2 U2 k2 hcx hcx2 hB
          have hw1 : IntKind.i64.wrap (((x - y : Nat) : Int) - 1) = ((x - y : Nat) : Int) - 1 := by rw [IntKind.wrap_i64]; omega
          have hd1 : (((x - y - 1 : Nat) : Int) != ((x - y : Nat) : Int) - 1) = false := bne_eq_false_iff_eq.2 (by omega)
          obtain ⟨l1, hl1⟩ : ∃ l1, x - y - 1 = l1 := ⟨_, rfl⟩
          obtain ⟨l2, hl2⟩ : ∃ l2, x - y = l2 := ⟨_, rfl⟩
          rw [hl1, hl2] at hd1
          rw [hl2] at hw1
          have HL1 := Lib.hid hl1
          rw [hl1, hl2]
          clear hl1 hl2 HYL
          go_wp2_with (fail)
          generalize hW3 : World.alloc w2 (.cells #[.int .u64 z1, .int .i64 z2] 25) = W3 at *
          clear hW3
          go_quiet (fail)
          go_wp2
          exact ⟨⟨y + 1, by omega, by go_num, by rw [HYS.out, ← HL1.out]; exact HSQ.out.up ((Up.refl W3).drewN nq), HU2.out.drewN nq⟩, by simp [intOf]; omega⟩
        · obtain rfl : y = x := by omega
          obtain ⟨A4, c4, rfl, -⟩ := hs
          have hz : ((xs.take y).drop y).length = 0 := by rw [hyl]; omega
          rw [hz]
          have HU := Lib.hid hU
          clear hU hyl hz
          go_wp2
          go_ret
          exact ⟨rfl, HU.out⟩
set_option maxRecDepth 100000 in
set_option maxHeartbeats 4000000 in
theorem walk_many (v : Value) (xs : List Ent) (w : World) (hx : Sl w v xs) (h64 : 64 < xs.length) :
    Calls Try.prog 4 #[v] w (fun e w' => e = .returned (.bool true) ∧ Up w w') := by
  have HX := Lib.hid hx
  have hm := hx.max
  obtain ⟨A, c, rfl, -⟩ := hx
  generalize hn : xs.length = n at *
  have HN := Lib.hid hn
  unfold maxLen at hm
  clear hn
  obtain ⟨m, hm64⟩ : ∃ m : Nat, m = 64 := ⟨_, rfl⟩
  have HM := Lib.hid hm64
  have hmn : m < n := by omega
  have hm1 : m ≤ 64 := by omega
  have hm2 : 64 ≤ m := by omega
  clear hm64
  go_enter Try.func4, Try.ntmps4
  go_wp2_with (fail)
  refine (shown_any _).mono ?_
  rintro e w1 ⟨rfl, U1⟩
  have HU1 := Lib.hid U1
  clear U1
  go_wp2_with (fail)
  go_loopw [4, 5, 6] (fun u4 u5 u6 wr => ARel w xs m u4 u5 u6 wr) (fun _ _ i _ => n - (intOf i).toNat)
  case atStart => exact ⟨0, Nat.zero_le _, rfl, rfl, Sl.nil _, HU1.out⟩
  case round =>
    rename World => wa
    obtain ⟨x, hxn, rfl, rfl, hs, hU⟩ := hrel
    by_cases hlt : x < m
    · obtain ⟨p, rfl, hcp, hcp2⟩ := (HX.out.up hU).rd.at_ (x := x) (by omega)
      have hst := ads_step (xs := xs) (x := x) (by rw [HN.out]; omega) (by omega)
      have ha := add_any u4 (xs.take x) (xs.getD x (0, 0)) 64 wa hs
      rw [hst.1, hst.2] at ha
      have HA := Lib.hid ha
      generalize xs.getD x (0, 0) = z at *
      obtain ⟨z1, z2⟩ := z
      simp only [] at hcp hcp2
      obtain ⟨A4, c4, rfl, -⟩ := hs
      generalize (xs.take x).length = lx at *
      have HUa := Lib.hid hU
      clear hst ha hU
      go_wp2_with (fail)
      refine HA.out.mono ?_
      rintro e w2 ⟨q, rfl, hsq, k2⟩
      have HSQ := Lib.hid hsq
      have HU2 := Lib.hid (HUa.out.trans k2)
      obtain ⟨A5, c5, rfl, -⟩ := hsq
      generalize (xs.take (x + 1)).length = lq at *
      clear k2
      go_wp2_with (fail)
      exact ⟨⟨x + 1, by omega, by go_num, by go_num, HSQ.out, HU2.out⟩, by simp [intOf]; omega⟩
    · obtain rfl : x = m := by omega
      obtain ⟨p, rfl, hcp, hcp2⟩ := (HX.out.up hU).rd.at_ (x := x) (by omega)
      have hst := ads_full (xs := xs) (x := x) (by rw [HN.out]; omega) HM.out (xs.getD x (0, 0))
      have ha := add_any u4 (xs.take x) (xs.getD x (0, 0)) 64 wa hs
      rw [hst.1, hst.2] at ha
      have HA := Lib.hid ha
      generalize xs.getD x (0, 0) = z at *
      obtain ⟨z1, z2⟩ := z
      simp only [] at hcp hcp2
      have HS := Lib.hid hs
      have hlx : (xs.take x).length = x := by rw [List.length_take, HN.out]; omega
      obtain ⟨A4, c4, e4, -⟩ := hs
      rw [hlx] at e4
      subst e4
      have HLX := Lib.hid hlx
      have HUa := Lib.hid hU
      clear hst ha hU hlx hlt
      go_wp2_with (fail)
      refine HA.out.mono ?_
      rintro e w2 ⟨q, rfl, hsq, k2⟩
      have HU0 := Lib.hid (HUa.out.trans k2)
      have HS0 : Hid (Sl w2 (.slice A4 x c4) ((xs.take x).drop 0)) := Lib.hid (by rw [List.drop_zero]; exact HS.out.up k2)
      obtain ⟨A5, c5, e5, -⟩ := hsq
      rw [HLX.out] at e5
      subst e5
      have hb1 : ((x : Int) != 64) = false := bne_eq_false_iff_eq.2 (by omega)
      clear k2 HS HUa HA hcp hcp2
      go_wp2_with (fail)
      go_loopw [4, 9] (fun u4 u9 wr => FRel w (xs.take x) x u4 u9 wr) (fun _ i _ => x - (intOf i).toNat)
      case atStart => exact ⟨0, Nat.zero_le _, rfl, HS0.out, HU0.out⟩
      case round =>
        rename World => wb
        obtain ⟨y, hy, rfl, hs, hU⟩ := hrel
        have hyl : ((xs.take x).drop y).length = x - y := by rw [List.length_drop, List.length_take, HN.out]; omega
        by_cases hlt2 : y < x
        · obtain ⟨px, ep, hcx, hcx2⟩ := (HX.out.up hU).rd.at_ (x := y) (by omega)
          cases ep
          have hg0 : ((xs.take x).drop y).getD 0 (0, 0) = xs.getD y (0, 0) := by
            simp only [List.getD]
            rw [List.getElem?_drop, Nat.add_zero, List.getElem?_take_of_lt hlt2]
          have hne : decide ((xs.take x).drop y ≠ []) = true := decide_eq_true (fun q => by rw [q] at hyl; simp at hyl; omega)
          have htl : ((xs.take x).drop y).tail = (xs.take x).drop (y + 1) := by rw [List.tail_drop]
          have hyl2 : ((xs.take x).drop (y + 1)).length = x - y - 1 := by rw [List.length_drop, List.length_take, HN.out]; omega
          have h1 := first_any u4 _ wb hs (by omega)
          unfold FiPost at h1
          rw [hg0, hne, htl] at h1
          have H1 := Lib.hid h1
          generalize hgz : xs.getD y (0, 0) = z at *
          generalize hys : (xs.take x).drop (y + 1) = ys2 at *
          have HYS := Lib.hid hys
          obtain ⟨A4, c4, e4, -⟩ := hs
          rw [hyl] at e4
          subst e4
          obtain ⟨z1, z2⟩ := z
          simp only [] at hcx hcx2
          have he := ne_ent z1 z2 z1 z2
          rw [show bE z1 z2 z1 z2 = true from by rw [bE_eq, decide_eq_true rfl]] at he
          have HUb := Lib.hid hU
          have HYL := Lib.hid hyl2
          have hlp := lt_of_cell hcx
          clear hg0 hne htl hyl hyl2 hgz h1 hU hys
          go_wp2_with (fail)
          refine H1.out.mono ?_
          rintro e w2 ⟨q, rfl, hsq, k2⟩
          have hcy := (Below.cell (k2.alloc (.cells #[.int .u64 z1, .int .i64 z2] 25)) hlp).trans hcx
          have hcy2 := (Below.cell (p := nxt _) (k2.alloc (.cells #[.int .u64 z1, .int .i64 z2] 25)) hlp).trans hcx2
          have U2 := (HUb.out.trans k2).alloc (.cells #[.int .u64 z1, .int .i64 z2] 25)
          have hsq2 := hsq.up ((Up.refl w2).alloc (.cells #[.int .u64 z1, .int .i64 z2] 25))
          have hB := Blk.new w2 25 #[.int .u64 z1, .int .i64 z2]
          have hBc := hB.cell
          have HSQ := Lib.hid hsq2
          have HU2 := Lib.hid U2
          obtain ⟨A5, c5, e5, -⟩ := hsq
          rw [HYL.out] at e5
          subst e5
          clear hsq2 U2 k2 hcx hcx2 hB
          have hw1 : IntKind.i64.wrap (((x - y : Nat) : Int) - 1) = ((x - y : Nat) : Int) - 1 := by rw [IntKind.wrap_i64]; omega
          have hd1 : (((x - y - 1 : Nat) : Int) != ((x - y : Nat) : Int) - 1) = false := bne_eq_false_iff_eq.2 (by omega)
          obtain ⟨l1, hl1⟩ : ∃ l1, x - y - 1 = l1 := ⟨_, rfl⟩
          obtain ⟨l2, hl2⟩ : ∃ l2, x - y = l2 := ⟨_, rfl⟩
          rw [hl1, hl2] at hd1
          rw [hl2] at hw1
          have HL1 := Lib.hid hl1
          rw [hl1, hl2]
          clear hl1 hl2 HYL
          go_wp2_with (fail)
          generalize hW3 : World.alloc w2 (.cells #[.int .u64 z1, .int .i64 z2] 25) = W3 at *
          clear hW3
          go_quiet (fail)
          go_wp2
          exact ⟨⟨y + 1, by omega, by go_num, by rw [HYS.out, ← HL1.out]; exact HSQ.out.up ((Up.refl W3).drewN nq), HU2.out.drewN nq⟩, by simp [intOf]; omega⟩
        · obtain rfl : y = x := by omega
          obtain ⟨A4, c4, rfl, -⟩ := hs
          have hz : ((xs.take y).drop y).length = 0 := by rw [hyl]; omega
          rw [hz]
          have HU := Lib.hid hU
          clear hU hyl hz
          go_wp2
          go_ret
          exact ⟨rfl, HU.out⟩
theorem walk (v : Value) (xs : List Ent) (w : World) (hx : Sl w v xs) :
    Calls Try.prog 4 #[v] w (fun e w' => e = .returned (.bool true) ∧ Up w w') := by
  by_cases h : xs.length ≤ 64
  · exact walk_few v xs w hx h
  · exact walk_many v xs w hx (by omega)

theorem own : ownKnob Try.prog.godebug = none := by kernel_rfl
set_option maxRecDepth 100000 in
theorem lifted (os : Os) (started : os.Started) (H : Type) (enc : TypeId × Value → H) :
    ReturnsInHanded {} Try.checked os 4 .any (Rows.logBackSpec.pre6 enc Try.prog Try.f4 Rows.logBackRow.domain false) (Rows.logBackSpec.post enc Try.prog Try.f4 false true false false) := by
  refine returnsInHanded_of_change (C := Try.checked) own started (by kernel_rfl) Try.func4
    (ChangeSpec.witness6 (enc := enc) (C := Try.checked) false ⟨#[], #[.slice none 0 0], []⟩ 8 (by kernel_rfl) (by kernel_rfl) (by kernel_rfl) (by kernel_rfl)) ?_
  intro W base args ds gs before hval0 hW hcnd _
  have hval : ∀ (j : Nat) t v, Try.f4.params[j]? = some t → args[j]? = some v → Value.okWide Try.prog W .any base t v := hval0
  have hW' := hW
  obtain ⟨p, q, hA0, hV, rfl, hfz, hnd⟩ := hW
  have hA : DataW.TrodAll enc Try.prog W 0 (fun _ => true) true Try.f4.params.toList args.toList ds p := hA0
  rw [Try.params4] at hA hval
  obtain ⟨v0, vs0, d0, ds0, p0, q0, hargs, rfl, rfl, h0, r0⟩ := trodAll_cons hA
  obtain ⟨rfl, rfl, rfl⟩ := trodAll_nil r0
  obtain rfl : args = #[v0] := by cases args; simp_all
  obtain ⟨rfl, rfl⟩ := trodVars_none hV
  have h0k := h0
  obtain ⟨xs0, s0, u0, b0, y0⟩ := ents_at (hval 0 22 v0 rfl rfl) h0
  clear hA0 hval0
  simp only [List.append_nil, List.nil_append] at hW'
  refine (walk v0 xs0 W s0).mono fun e W' ⟨he, hg⟩ => ?_
  subst he
  exact ⟨_, rfl, post_below (pa := p0) (pv := []) hW' (fun _ _ _ => (trodAll_cons_mk (shut_bool Try.underlying4 _) trodAll_mk0))
    (fun sp hsp => by
      have t := (trodAll_cons_mk (trod_keeps (sp := sp) (by kernel_rfl) (of_decide_eq_true (by kernel_rfl)) h0k hg (fun x hx => hW'.lt x (by simp [hx])) (fun x hx => hsp x (by simp [hx]))) trodAll_mk0)
      simp only [List.append_nil, List.nil_append] at t
      exact t) (fun _ _ => rfl) (by simp)
    hg (ok_one (by kernel_rfl) rfl (okWide_bool_mk Try.underlying4 _))⟩

set_option maxRecDepth 100000 in
theorem over : Rows.logBackRow.holds Try.pinned (OpenSpec.ofChange Rows.logBackSpec) :=
  OpenClaim.holds_of_wide 4 Try.f4 rfl rfl rfl rfl rfl rfl rfl ⟨rfl, rfl, rfl, rfl, rfl⟩ rfl rfl rfl rfl rfl (by kernel_rfl) Try.func4 (by kernel_rfl)
    (of_decide_eq_true (by kernel_rfl)) (by unfold Func.isWrapper; first | (rw [if_pos (by decide +kernel)]; kernel_rfl) | (rw [if_neg (by decide +kernel)]; exact ⟨rfl, rfl⟩))
    (fun os started H enc _ => lifted os started H enc)

theorem proved : Rows.LogBackSaid :=
  over
#print axioms proved
end Go.Proofs.Ytgofejhjnbnecaa.LLogBack
