/- Whether a thread can do something (act.Can): contract. -/
import Derived.Test.YtddoljfkbkbfjaaGreatTx
namespace Go.Proofs.YtddoljfkbkbfjaaGreat.T
open G
open Go.Joins Go.ChangeShapes Go.WideShapes Go.ChangeAt Go.RowKit Go.Deep Go.Shelf Go.Maps
set_option linter.unusedVariables false
set_option linter.unusedSimpArgs false

def isW (o : Op) : Bool := decide (4 ≤ o.kd ∧ o.kd ≤ 7)
/-- Whether a thread can do something in a heap. -/
def canT (h : Hp) (t : Th) : Bool :=
  if t.pd ≠ [] then true
  else if t.lf = [] ∨ t.wt = true ∨ h.ph = 2 then false
  else if isW (t.lf.headD oz) = true ∧ h.ph = 1 then decide ((t.lg.length : Int) < h.lg)
  else true
def canB (h : Hp) (th : Int) : Bool :=
  if 0 ≤ th ∧ th < h.th.length ∧ h.bk = 0 then (match h.th[th.toNat]? with | some t => canT h t | none => false) else false
/-- The cells of an element, as the walk spells them. -/
theorem rc_elem {α : Type} {cv : α → List Value} {w : World} {xs : List α} {k : Nat} {A : Option Addr} {n c j : Nat} {x : α} (h : Rc cv w (.slice A n c) xs) (hk : ∀ x, (cv x).length = k) (k0 : 0 < k) (hj : xs[j]? = some x) :
    ∃ p, A = some p ∧ p.block < w.heap.size ∧ w.cell? (p.add (j * k)) = (cv x)[0]? ∧ ∀ i u, (cv x)[i + 1]? = some u → w.cell? ⟨(p.add (j * k)).block, (p.add (j * k)).off + (i + 1), none⟩ = some u := by
  obtain ⟨p, e, hp, hc⟩ := h.at_ hk k0 hj
  refine ⟨p, e, hp, ?_, fun i u hu => ?_⟩
  · have e0 := hc 0 _ (List.getElem?_eq_getElem (by rw [hk]; exact k0))
    rw [List.getElem?_eq_getElem (by rw [hk]; exact k0)]
    exact e0
  · rw [← hc (i + 1) u hu, ← add_add]
    congr 1
section
variable {h : Hp} {w : World}
theorem can_no (h : Hp) (P Q : Addr) (c d : Nat) (A : Option Addr) (n ct : Nat) (B : Option Addr) (m co : Nat) (th : Int) (w : World) (hn : n = h.th.length) (hN : n ≤ 9223372036854775807) (hno : ¬ (0 ≤ th ∧ th < h.th.length ∧ h.bk = 0)) :
    Calls Tryz.prog 13 #[.agg (hpc h P Q c d (.slice A n ct) (.slice B m co)), .int .i64 th] w fun en w' => en = .returned (.bool (canB h th)) ∧ Up w w' := by
  have HC := Lib.hid (show canB h th = false from by unfold canB; rw [if_neg hno])
  have HA := Lib.hid (has_any h P Q c d A n ct (.slice B m co) th)
  have HM := Lib.hid hN
  unfold hpc at HA ⊢
  by_cases h1 : 0 ≤ th ∧ th < h.th.length
  · have HN := Lib.hid (decide_eq_true (show (0 ≤ th ∧ th < (n : Int)) by omega))
    have hb : (h.bk != 0) = true := bne_iff_ne.2 (fun q => hno ⟨h1.1, h1.2, q⟩)
    clear hno h1 hn hN
    go_enter Tryz.func13, Tryz.ntmps13
    go_wp2_with (fail)
    refine calls_at (fun V hV => ?_)
    have bH : Blk V w.heap.size 32 #[.int .i64 h.m.n, .slice (some P) h.m.n c, .slice (some Q) h.m.n d, .int .i64 h.fs, .int .i64 h.fa, .int .i64 h.fl, .int .i64 h.ts, .int .i64 h.ta, .int .i64 h.tl, .int .i64 h.sz, .int .i64 h.lg, (.slice A n ct), .int .i64 h.ph, .int .i64 h.sc, .int .i64 h.fp, (.slice B m co), .int .i64 h.bk] := by rw [hV]; exact Blk.new _ _ _
    have UV : Up w V := by rw [hV]; exact (Up.refl w).alloc _
    clear hV
    refine (HA.out V HM.out).mono ?_
    rintro e w1 ⟨he, hu⟩
    rw [HN.out] at he
    subst he
    have U1 := UV.trans hu
    have bc := (bH.up hu).cell
    have bl := (bH.up hu).lt
    clear hu UV bH
    go_wp2_with (fail)
    go_ret
    exact ⟨by rw [HC.out]; rfl, by first | exact U1 | exact U1.drewN _⟩
  · have HN := Lib.hid (decide_eq_false (show ¬ (0 ≤ th ∧ th < (n : Int)) by omega))
    clear hno h1 hn hN
    go_enter Tryz.func13, Tryz.ntmps13
    go_wp2_with (fail)
    refine calls_at (fun V hV => ?_)
    have bH : Blk V w.heap.size 32 #[.int .i64 h.m.n, .slice (some P) h.m.n c, .slice (some Q) h.m.n d, .int .i64 h.fs, .int .i64 h.fa, .int .i64 h.fl, .int .i64 h.ts, .int .i64 h.ta, .int .i64 h.tl, .int .i64 h.sz, .int .i64 h.lg, (.slice A n ct), .int .i64 h.ph, .int .i64 h.sc, .int .i64 h.fp, (.slice B m co), .int .i64 h.bk] := by rw [hV]; exact Blk.new _ _ _
    have UV : Up w V := by rw [hV]; exact (Up.refl w).alloc _
    clear hV
    refine (HA.out V HM.out).mono ?_
    rintro e w1 ⟨he, hu⟩
    rw [HN.out] at he
    subst he
    have U1 := UV.trans hu
    have bc := (bH.up hu).cell
    have bl := (bH.up hu).lt
    clear hu UV bH
    go_wp2_with (fail)
    go_ret
    exact ⟨by rw [HC.out]; rfl, by first | exact U1 | exact U1.drewN _⟩
set_option maxRecDepth 100000 in
set_option maxHeartbeats 2000000 in
theorem can_yes (h : Hp) (P Q : Addr) (c d : Nat) (vt vo : Value) (us0 : List Tv) (w : World) (hvt : Rc tvc w vt us0) (hr : ThsR w us0 h.th) (ho : Rc inc w vo h.od) (j : Nat) (t : Th) (ht : h.th[j]? = some t) (hbk : h.bk = 0) :
    Calls Tryz.prog 13 #[.agg (hpc h P Q c d vt vo), .int .i64 j] w fun en w' => en = .returned (.bool (canT h t)) ∧ Up w w' := by
  obtain ⟨u, hu, hR⟩ := hr.at_ ht
  have hul : us0.length = h.th.length := hr.1
  have hj : j < h.th.length := by
    rcases Nat.lt_or_ge j h.th.length with q | q
    · exact q
    · rw [List.getElem?_eq_none q] at ht; cases ht
  obtain ⟨A, ct, rfl, hv1, hv2, -, -⟩ := id hvt
  obtain ⟨B, co, rfl, -⟩ := id ho
  have HCL := Lib.hid (fun W (k : Up w W) => rc_elem (k := 8) (hvt.up k) (fun _ => rfl) (by decide) hu)
  have HA := Lib.hid (has_any h P Q c d A us0.length ct (.slice B h.od.length co) (j : Int))
  have HM := Lib.hid (show us0.length ≤ 9223372036854775807 by unfold maxLen at hv2; omega)
  have HN := Lib.hid (decide_eq_true (show (0 ≤ (j : Int) ∧ (j : Int) < (us0.length : Int)) by omega))
  have hj2 : decide ((j : Int) < (us0.length : Int)) = true := decide_eq_true (by omega)
  have hjn : j < us0.length := by omega
  have hm63 : us0.length ≤ 9223372036854775807 := HM.out
  have hb : (h.bk != 0) = false := by rw [hbk]; rfl
  obtain ⟨ust, uba, ube, ulg, ulf, upd, uwt, udn⟩ := u
  obtain ⟨Ag, cg, rfl, g1, g2, -, -⟩ := id hR.lg
  obtain ⟨Al, cl, rfl, l1, l2, l3, l4⟩ := id hR.lf
  obtain ⟨Ap, cp, rfl, p1, p2, -, -⟩ := id hR.pd
  obtain ⟨As, cs, rfl, -⟩ := id hR.st
  obtain ⟨Ad, cd, rfl, -⟩ := id hR.dn
  obtain ⟨wt, hwt⟩ : ∃ b, t.wt = b := ⟨_, rfl⟩
  have ewt : uwt = wt := hR.wt.trans hwt
  subst ewt
  have HLF := Lib.hid (fun W (k : Up w W) => (hR.lf.up k : Rc opc W (.slice Al t.lf.length cl) t.lf))
  obtain ⟨r, hr0⟩ : ∃ r, canT h t = r := ⟨_, rfl⟩
  rw [hr0]
  have HR := Lib.hid hr0
  unfold canT at hr0
  rw [hwt] at hr0
  have hg63 : t.lg.length ≤ 9223372036854775807 := by unfold maxLen at g2; omega
  have hl63 : t.lf.length ≤ 9223372036854775807 := by unfold maxLen at l2; omega
  have hp63 : t.pd.length ≤ 9223372036854775807 := by unfold maxLen at p2; omega
  have HLC := Lib.hid hr0
  have hpd0 : t.pd ≠ [] ↔ 0 < t.pd.length := List.length_pos_iff.symm
  have hlf0 : t.lf = [] ↔ t.lf.length = 0 := List.length_eq_zero_iff.symm
  have HP0 := Lib.hid hpd0
  have HL0 := Lib.hid hlf0
  generalize hng : t.lg.length = ng at *
  generalize hnp : t.pd.length = np at *
  generalize hns : t.st.length = ns at *
  generalize hnd : t.dn.length = nd at *
  generalize hnl : t.lf.length = nl at *
  generalize hnt : us0.length = nt at *
  generalize hno : h.od.length = no at *
  have HNL := Lib.hid hnl
  clear hpd0 hlf0 hr0 hR hvt hr ho hul hj hv1 hv2 hbk hu ht g1 g2 l1 l2 l3 l4 p1 p2 hwt hng hnp hns hnd hnl hnt hno
  unfold hpc at HA ⊢
  go_enter Tryz.func13, Tryz.ntmps13
  go_wp2_with (fail)
  refine calls_at (fun V hV => ?_)
  have bH : Blk V w.heap.size 32 #[.int .i64 h.m.n, .slice (some P) h.m.n c, .slice (some Q) h.m.n d, .int .i64 h.fs, .int .i64 h.fa, .int .i64 h.fl, .int .i64 h.ts, .int .i64 h.ta, .int .i64 h.tl, .int .i64 h.sz, .int .i64 h.lg, (.slice A nt ct), .int .i64 h.ph, .int .i64 h.sc, .int .i64 h.fp, (.slice B no co), .int .i64 h.bk] := by rw [hV]; exact Blk.new _ _ _
  have UV : Up w V := by rw [hV]; exact (Up.refl w).alloc _
  clear hV
  refine (HA.out V HM.out).mono ?_
  rintro e w1 ⟨he, hu⟩
  rw [HN.out] at he
  subst he
  have U1 := UV.trans hu
  have bH1 := bH.up hu
  have bc := bH1.cell
  have bl := bH1.lt
  obtain ⟨p, rfl, hp, k0, k1⟩ := HCL.out w1 U1
  have e0 : w1.cell? (p.add (j * 8)) = some (.slice As ns cs) := k0
  have e1 := k1 0 _ rfl
  have e2 := k1 1 _ rfl
  have e3 := k1 2 _ rfl
  have e4 := k1 3 _ rfl
  have e5 := k1 4 _ rfl
  have e6 := k1 5 _ rfl
  have e7 := k1 6 _ rfl
  simp only [Nat.zero_add, Nat.reduceAdd] at e1 e2 e3 e4 e5 e6 e7
  have HU1 := Lib.hid U1
  have HBH := Lib.hid bH1
  clear hu UV bH k0 k1 HCL bH1 U1
  go_upto_region 4 with fail
  by_cases hp1 : 0 < np
  · have b1 : decide (0 < np) = true := decide_eq_true (by omega)
    have HV := Lib.hid (show r = true by rw [← HLC.out, if_pos (HP0.out.2 hp1)])
    clear hp1
    go_wp2_with (fail)
    go_ret
    exact ⟨by rw [HV.out]; rfl, by first | exact HU1.out.alloc _ | (repeat (first | with_reducible exact HU1.out | with_reducible refine Up.alloc ?_ _ | with_reducible refine Up.drew ?_ | refine Up.setCell ?_ (by simp <;> omega) _))⟩
  · have b1 : decide (0 < np) = false := decide_eq_false (by omega)
    have HX := Lib.hid ((if_neg (fun q => hp1 (HP0.out.1 q))).symm.trans HLC.out)
    clear hp1
    by_cases hl1 : nl = 0
    · subst hl1
      have HV := Lib.hid (show r = false by rw [← HX.out, if_pos (.inl (HL0.out.2 rfl))])
      go_wp2_with (fail)
      go_ret
      exact ⟨by rw [HV.out]; rfl, by first | exact HU1.out.alloc _ | (repeat (first | with_reducible exact HU1.out | with_reducible refine Up.alloc ?_ _ | with_reducible refine Up.drew ?_ | refine Up.setCell ?_ (by simp <;> omega) _))⟩
    · have bl0 : ((nl : Int) == 0) = false := beq_eq_false_iff_ne.mpr (by omega)
      by_cases hw1 : uwt = true
      · subst hw1
        have HV := Lib.hid (show r = false by rw [← HX.out, if_pos (.inr (.inl rfl))])
        clear hl1
        go_wp2_with (fail)
        go_ret
        exact ⟨by rw [HV.out]; rfl, by first | exact HU1.out.alloc _ | (repeat (first | with_reducible exact HU1.out | with_reducible refine Up.alloc ?_ _ | with_reducible refine Up.drew ?_ | refine Up.setCell ?_ (by simp <;> omega) _))⟩
      · have hw2 : uwt = false := by simpa using hw1
        subst hw2
        clear hw1
        by_cases hp2 : h.ph = 2
        · have b2 : (h.ph == 2) = true := beq_iff_eq.2 hp2
          have HV := Lib.hid (show r = false by rw [← HX.out, if_pos (.inr (.inr hp2))])
          clear hl1 hp2
          go_wp2_with (fail)
          go_ret
          exact ⟨by rw [HV.out]; rfl, by first | exact HU1.out.alloc _ | (repeat (first | with_reducible exact HU1.out | with_reducible refine Up.alloc ?_ _ | with_reducible refine Up.drew ?_ | refine Up.setCell ?_ (by simp <;> omega) _))⟩
        · have b2 : (h.ph == 2) = false := beq_eq_false_iff_ne.mpr hp2
          have HX2 := Lib.hid ((if_neg (show ¬ (t.lf = [] ∨ false = true ∨ h.ph = 2) from fun q => by
            rcases q with q | q | q
            · exact hl1 (HL0.out.1 q)
            · cases q
            · exact hp2 q)).symm.trans HX.out)
          have HO := Lib.hid (show t.lf[0]? = some (t.lf.headD oz) by
            have q := HNL.out
            generalize t.lf = lf at *
            cases lf with
            | nil => exact absurd q.symm (by simpa using hl1)
            | cons a r => rfl)
          generalize ho : t.lf.headD oz = o at *
          clear hp2 HX ho
          go_upto_region 8 with fail
          have hw0 := writes_any o
          generalize hW2 : (w1.alloc (Obj.cells #[Value.slice As ns cs, Value.int IntKind.i64 uba, Value.int IntKind.i64 ube, Value.slice Ag ng cg, Value.slice Al nl cl, Value.slice Ap np cp, Value.bool false, Value.slice Ad nd cd] 44)) = W2
          have U2 : Up w1 W2 := by rw [← hW2]; exact (Up.refl _).alloc _
          have bT : Blk W2 w1.heap.size 44 #[Value.slice As ns cs, Value.int IntKind.i64 uba, Value.int IntKind.i64 ube, Value.slice Ag ng cg, Value.slice Al nl cl, Value.slice Ap np cp, Value.bool false, Value.slice Ad nd cd] := by rw [← hW2]; exact Blk.new _ _ _
          clear hW2 e0 e1 e2 e3 e4 e5 e6 e7 bc bl hp
          have bT' := bT.cell
          have bTl := bT.lt
          have bc := (HBH.out.up U2).cell
          have bl := (HBH.out.up U2).lt
          obtain ⟨q, rfl, hq, k0, k1⟩ := rc_elem (k := 8) (HLF.out W2 (HU1.out.trans U2)) (fun _ => rfl) (by decide) HO.out
          have e0 : W2.cell? (q.add (0 * 8)) = some (.int .i64 o.kd) := k0
          have e1 := k1 0 _ rfl
          have e2 := k1 1 _ rfl
          have e3 := k1 2 _ rfl
          have e4 := k1 3 _ rfl
          have e5 := k1 4 _ rfl
          have e6 := k1 5 _ rfl
          have e7 := k1 6 _ rfl
          rw [Nat.zero_mul, Addr.add_zero'] at e0 e1 e2 e3 e4 e5 e6 e7
          simp only [Nat.zero_add, Nat.reduceAdd] at e1 e2 e3 e4 e5 e6 e7
          have HW2 := Lib.hid (HU1.out.trans U2)
          have HBH2 := Lib.hid (HBH.out.up U2)
          have HBT2 := Lib.hid bT
          have hnl0 : 0 < nl := by omega
          clear U2 bT k0 k1 hl1
          unfold opv at hw0
          have HWR := Lib.hid hw0
          clear hw0
          by_cases hwr : isW o = true
          · have HV0 := Lib.hid (show decide (4 ≤ o.kd ∧ o.kd ≤ 7) = true from hwr)
            by_cases hph : h.ph = 1
            · have b3 : (h.ph == 1) = true := beq_iff_eq.2 hph
              have HV := Lib.hid (show r = decide ((ng : Int) < h.lg) by rw [← HX2.out, if_pos ⟨hwr, hph⟩])
              clear hph HX2
              go_wp2_with (fail)
              refine (HWR.out _).mono ?_
              rintro e w3 ⟨he, hu⟩
              rw [HV0.out] at he
              subst he
              have HW3 := Lib.hid (HW2.out.trans hu)
              have bT' := (HBT2.out.up hu).cell
              have bTl := (HBT2.out.up hu).lt
              have bc := (HBH2.out.up hu).cell
              have bl := (HBH2.out.up hu).lt
              clear hu
              obtain ⟨b4, hb4⟩ : ∃ b, decide ((ng : Int) < h.lg) = b := ⟨_, rfl⟩
              rw [hb4] at HV
              go_wp2_with (fail)
              go_ret
              exact ⟨by rw [HV.out]; rfl, by (repeat (first | with_reducible exact HW3.out | with_reducible refine Up.alloc ?_ _ | with_reducible refine Up.drew ?_ | with_reducible refine Up.drewN ?_ _))⟩
            · have b3 : (h.ph == 1) = false := beq_eq_false_iff_ne.mpr hph
              have HV := Lib.hid (show r = true by rw [← HX2.out, if_neg (fun q => hph q.2)])
              clear hph HX2
              go_wp2_with (fail)
              refine (HWR.out _).mono ?_
              rintro e w3 ⟨he, hu⟩
              rw [HV0.out] at he
              subst he
              have HW3 := Lib.hid (HW2.out.trans hu)
              have bT' := (HBT2.out.up hu).cell
              have bTl := (HBT2.out.up hu).lt
              have bc := (HBH2.out.up hu).cell
              have bl := (HBH2.out.up hu).lt
              clear hu
              go_wp2_with (fail)
              go_ret
              exact ⟨by rw [HV.out]; rfl, by (repeat (first | with_reducible exact HW3.out | with_reducible refine Up.alloc ?_ _ | with_reducible refine Up.drew ?_ | with_reducible refine Up.drewN ?_ _))⟩
          · have HV0 := Lib.hid (show decide (4 ≤ o.kd ∧ o.kd ≤ 7) = false from by unfold isW at hwr; simpa using hwr)
            have HV := Lib.hid (show r = true by rw [← HX2.out, if_neg (fun q => hwr q.1)])
            clear HX2
            go_wp2_with (fail)
            refine (HWR.out _).mono ?_
            rintro e w3 ⟨he, hu⟩
            rw [HV0.out] at he
            subst he
            have HW3 := Lib.hid (HW2.out.trans hu)
            have bT' := (HBT2.out.up hu).cell
            have bTl := (HBT2.out.up hu).lt
            have bc := (HBH2.out.up hu).cell
            have bl := (HBH2.out.up hu).lt
            clear hu hwr
            go_wp2_with (fail)
            go_ret
            exact ⟨by rw [HV.out]; rfl, by (repeat (first | with_reducible exact HW3.out | with_reducible refine Up.alloc ?_ _ | with_reducible refine Up.drew ?_ | with_reducible refine Up.drewN ?_ _))⟩
theorem can_any (h : Hp) (P Q : Addr) (c d : Nat) (vt vo : Value) (us0 : List Tv) (w : World) (hvt : Rc tvc w vt us0) (hr : ThsR w us0 h.th) (ho : Rc inc w vo h.od) (th : Int) :
    Calls Tryz.prog 13 #[.agg (hpc h P Q c d vt vo), .int .i64 th] w fun en w' => en = .returned (.bool (canB h th)) ∧ Up w w' := by
  by_cases hin : 0 ≤ th ∧ th < h.th.length ∧ h.bk = 0
  · obtain ⟨j, rfl⟩ : ∃ j : Nat, th = j := ⟨th.toNat, by omega⟩
    have hj : j < h.th.length := by omega
    have e : canB h (j : Int) = canT h h.th[j] := by
      unfold canB
      rw [if_pos hin, Int.toNat_natCast, List.getElem?_eq_getElem hj]
    rw [e]
    exact can_yes h P Q c d vt vo us0 w hvt hr ho j _ (List.getElem?_eq_getElem hj) hin.2.2
  · obtain ⟨A, ct, rfl, hv1, hv2, -⟩ := hvt
    obtain ⟨B, co, rfl, -⟩ := ho
    exact can_no h P Q c d A _ ct B _ co th w hr.1 (by unfold maxLen at hv2; omega) hin
end
end Go.Proofs.YtddoljfkbkbfjaaGreat.T
