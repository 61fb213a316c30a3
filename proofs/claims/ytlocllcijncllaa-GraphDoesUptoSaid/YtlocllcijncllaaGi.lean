/- A deed's steps that write (graph's deed: push, follow ..): contracts. -/
import Derived.Test.YtlocllcijncllaaGh
namespace Go.Proofs.Ytlocllcijncllaa
open Go.Joins Go.ChangeShapes Go.WideShapes Go.ChangeAt Go.RowKit Go.Deep Go.Shelf Go.Maps
set_option linter.unusedVariables false
set_option linter.unusedSimpArgs false

theorem Md.up {base D : Nat} {w w' : World} {g : Gr} {th : Int} {o : Op} {s : Kn} (h : Md base D w g th o s) (u : Up w w') : Md base D w' g th o s := by
  obtain ⟨vn, GS, us2, h1, h2, h3, h4, h5, h6⟩ := h
  exact ⟨vn, GS, us2, h1.up u, h2.up u, h3.up u, h4.up u, h5, h6⟩
theorem push_st (base D : Nat) (g : Gr) (th : Int) (o : Op) (s : Kn) (w : World) (hS : St base D w g th o s) (ht : isTh g th) (hr : (rowOf g th).length < 16) :
    Calls Try.prog 69 #[.pointer (some ⟨D, 0, none⟩)] w (Lp base D (pushG g th s.h) th o s w) := by
  have hc := Lib.hid (next_md base D g th o s s.h w (hS.md ht) ht hr)
  obtain ⟨vn, vs, us, us2, BF, GS, BS, hD, hO, hB⟩ := hS
  have hcD := hD.cell
  unfold dcs at hcD
  have hlD := hD.lt
  clear hD hO hr
  go_enter Try.func69, Try.ntmps69
  go_wp2_with (fail)
  refine hc.out.mono ?_
  rintro e w1 ⟨rfl, h1, h2⟩
  go_wp2
  go_ret
  exact ⟨rfl, h1, h2⟩
set_option maxHeartbeats 1000000 in
theorem follow_st (base D : Nat) (g : Gr) (th : Int) (o : Op) (s : Kn) (w : World) (hS : St base D w g th o s) (ht : isTh g th) (hin : inN g s.h) (i : Nat) (hi : o.i = i) (hil : i < (ndOf g s.h).2.length) (hv0 : 0 ≤ (ndOf g s.h).2.getD i 0) (hv1 : (ndOf g s.h).2.getD i 0 ≤ 1000000) (hr : (rowOf g th).length < 16) :
    Calls Try.prog 65 #[.pointer (some ⟨D, 0, none⟩)] w (Lp base D (pushG g th ((ndOf g s.h).2.getD i 0)) th o s w) := by
  have hc := Lib.hid (fun w' (k : Up w w') => next_md base D g th o s ((ndOf g s.h).2.getD i 0) w' ((hS.md ht).up k) ht hr)
  obtain ⟨vn, vs, us, us2, BF, GS, BS, hD, hO, hB⟩ := hS
  obtain ⟨p, u, -, ⟨c0, c1, c2, c3⟩, hs, hn⟩ := node_in D vn vs th o s g us w hD hO.ns hin
  have HN := Lib.hid (fun w' hU => Qt.u (hn w' hU) rfl)
  obtain ⟨A, c, rfl, -, hcm, -⟩ := id hs
  obtain ⟨pf, rfl, hcf⟩ := hs.at_ hil
  have hlm := hs.max
  unfold maxLen at hlm
  generalize p.add ((s.h.toNat - 1) * 4) = q at *
  generalize (ndOf g s.h).2.getD i 0 = v at *
  generalize (ndOf g s.h).2.length = ln at *
  have hcw : Hid (∀ w', Up w w' → Calls Try.prog 82 #[.pointer (some ⟨D, 0, none⟩), .int .i64 (IntKind.i64.wrap v)] w' (Lp base D (pushG g th v) th o s w')) := Lib.hid (by
    have hw : IntKind.i64.wrap v = v := by rw [IntKind.wrap_i64]; omega
    rw [hw]
    exact hc.out)
  clear hc
  have D0 := hD.drew
  have UW := (Up.refl w).drew
  have U0 := Up.refl w.drew
  have c3' : w.drew.cell? ⟨q.block, q.off + 3, none⟩ = some (.slice (some pf) ln c) := c3
  have hcf' : w.drew.cell? (pf.add i) = some (.int .u64 v) := hcf
  clear c0 c1 c2 c3 hs hn hcf hcm hin hO hr
  go_enter Try.func65, Try.ntmps65
  go_wp2_with (fail)
  have hcD := D0.cell
  unfold dcs at hcD
  rw [hi] at hcD
  have hlD := D0.lt
  have hqb := lt_of_cell c3'
  go_region_with (first
      | (go_at_call 77; (refine (HN.out _ UW).mono ?_); rintro e wz ⟨rfl, hz⟩; have hcZ := (D0.up hz).cell; unfold dcs at hcZ; rw [hi] at hcZ; have hlZ := (D0.up hz).lt; have c3z := hz.cell c3'; have hcfz := hz.cell hcf'; have hqz := hz.lt hqb)
      | (go_at_call 82; (with_reducible refine (hcw.out _ (UW.trans hz)).mono ?_); rintro e w2 ⟨rfl, h1, h2⟩))
  all_goals
    go_wp2
    go_ret
    exact ⟨rfl, (Kf.of_up (UW.trans hz)).trans h1, h2⟩

set_option maxHeartbeats 1000000 in
theorem get_st (base D : Nat) (g : Gr) (th : Int) (o : Op) (s : Kn) (w : World) (hS : St base D w g th o s) (hin : inN g s.h) (i : Nat) (hi : o.i = i) (hil : i < (ndOf g s.h).2.length) :
    Calls Try.prog 63 #[.pointer (some ⟨D, 0, none⟩)] w (Lp base D g th o { s with v := (ndOf g s.h).2.getD i 0 } w) := by
  obtain ⟨vn, vs, us, us2, BF, GS, BS, hD, hO, hB⟩ := hS
  obtain ⟨p, u, -, ⟨c0, c1, c2, c3⟩, hs, hn⟩ := node_in D vn vs th o s g us w hD hO.ns hin
  have HN := Lib.hid (fun w' hU => Qt.u (hn w' hU) rfl)
  obtain ⟨A, c, rfl, -, hcm, -⟩ := id hs
  obtain ⟨pf, rfl, hcf⟩ := hs.at_ hil
  have hlm := hs.max
  unfold maxLen at hlm
  generalize p.add ((s.h.toNat - 1) * 4) = q at *
  generalize (ndOf g s.h).2.getD i 0 = v at *
  generalize (ndOf g s.h).2.length = ln at *
  have D0 := hD.drew
  have HO := Lib.hid hO
  have UW := (Up.refl w).drew
  have U0 := Up.refl w.drew
  have c3' : w.drew.cell? ⟨q.block, q.off + 3, none⟩ = some (.slice (some pf) ln c) := c3
  have hcf' : w.drew.cell? (pf.add i) = some (.int .u64 v) := hcf
  clear c0 c1 c2 c3 hs hn hcf hcm hin hO
  go_enter Try.func63, Try.ntmps63
  go_wp2_with (fail)
  have hcD := D0.cell
  unfold dcs at hcD
  rw [hi] at hcD
  have hlD := D0.lt
  have hqb := lt_of_cell c3'
  go_region_with (go_at_call 77; (refine (HN.out _ UW).mono ?_); rintro e wz ⟨rfl, hz⟩; have hcZ := (D0.up hz).cell; unfold dcs at hcZ; rw [hi] at hcZ; have hlZ := (D0.up hz).lt; have hfZ := (D0.up hz).frozen; have c3z := hz.cell c3'; have hcfz := hz.cell hcf'; have hqz := hz.lt hqb)
  all_goals
    go_wp2
    go_ret
    obtain ⟨k1, k2⟩ := St.set_ (D0.up hz) (HO.out.up (UW.trans hz)) hB 14 (.int .u64 v) { s with v := v } rfl
    exact ⟨rfl, (Kf.of_up (UW.trans hz)).trans k1, k2.fn⟩
theorem same_st (base D : Nat) (g : Gr) (th : Int) (o : Op) (s : Kn) (w : World) (hS : St base D w g th o s) :
    Calls Try.prog 68 #[.pointer (some ⟨D, 0, none⟩)] w (Lp base D g th o { s with y := decide (s.h = s.k) } w) := by
  obtain ⟨vn, vs, us, us2, BF, GS, BS, hD, hO, hB⟩ := hS
  have hcD := hD.cell
  unfold dcs at hcD
  have hlD := hD.lt
  have hfD := hD.frozen
  have HD := Lib.hid hD
  have HO := Lib.hid hO
  clear hD hO
  generalize hb : decide (s.h = s.k) = b
  have hb' : (s.h == s.k) = b := by rw [← hb]; rfl
  clear hb
  go_enter Try.func68, Try.ntmps68
  go_wp2
  go_region
  go_wp2
  go_ret
  obtain ⟨k1, k2⟩ := St.set_ HD.out HO.out hB 15 (.bool b) { s with y := b } rfl
  have hU : Up (w.setCell ⟨D, 15, none⟩ (.bool b)) (w.setCell ⟨D, 15, none⟩ (.bool b)).drew := (Up.refl _).drew
  exact ⟨rfl, k1.up hU, (k2.up hU).fn⟩
theorem run_cut1 (A : Option Addr) (n c k : Nat) (hk : k ≤ c) (w : World) :
    (Instr.sliceAt 47 (.slice A n c) none (some (.int .i64 (k : Int))) none).run Try.prog w = .ok (.slice A k c) w ∧ (Instr.slice 47 (.slice A n c) none (some (.int .i64 (k : Int))) none).run Try.prog w = .ok (.slice A k c) w := by
  obtain ⟨i0, z, hi0, hz0, hz1, hz2⟩ := el_int.ex
  have hel : Try.prog.elem 47 = 3 := by kernel_rfl
  have hu : Try.prog.underlying 47 = some (.slice (Try.prog.elem 47)) := by rw [hel]; exact el_int.und
  rw [run_sliceAt_slice (h := hu), and_self, run_slice_h (ht := hu) (h0 := by omega) (h2 := by omega), hel]
  cases A
  · simp [sizeOf, typeInfo, hi0, sliced]
  · rename_i p
    have e0 : p.add 0 = p := Addr.add_zero' p
    simp [sizeOf, typeInfo, hi0, sliced, e0]
def popG (g : Gr) (th : Int) : Gr := (g.1, g.2.set th.toNat (rowOf g th).dropLast)
/-- What pop leaves. -/
def Pp (base D : Nat) (g : Gr) (th : Int) (o : Op) (s : Kn) (w : World) (e : Ending) (w' : World) : Prop :=
  ∃ x, e = .returned (.int .i64 x) ∧ Kf base w w' ∧ (x = if rowOf g th = [] then 9 else 0) ∧ Fn D w' (if rowOf g th = [] then g else popG g th) th o s
set_option maxHeartbeats 1000000 in
theorem pop_st (base D : Nat) (g : Gr) (th : Int) (o : Op) (s : Kn) (w : World) (hS : St base D w g th o s) (ht : isTh g th) :
    Calls Try.prog 70 #[.pointer (some ⟨D, 0, none⟩)] w (Pp base D g th o s w) := by
  have HS := Lib.hid hS
  obtain ⟨vn, GS, us2, hD, hns, hG, hgd, ⟨A, hu⟩, hge, hgD, hm⟩ := hS.md ht
  have hc := Lib.hid (Qt.u (row_any D GS g.2.length th.toNat vn th o s us2 A _ _ w (by have := ht.1; omega) (by have := ht.1; have := ht.2; omega) hD hG hu hm) rfl)
  obtain ⟨j, rfl⟩ : ∃ j : Nat, th = j := ⟨th.toNat, by have := ht.1; omega⟩
  have hjn : j < g.2.length := by have := ht.2; omega
  have hrs : Sl .i64 w (.slice A (rowOf g (j : Int)).length (rowOf g (j : Int)).length) (rowOf g (j : Int)) := by
    have hj2 : g.2[(j : Int).toNat]? = some (rowOf g (j : Int)) := by simp [rowOf, List.getD, List.getElem?_eq_getElem hjn]
    exact hgd.out.2 _ _ _ hu hj2
  rw [Int.toNat_natCast] at *
  by_cases h0 : rowOf g (j : Int) = []
  · have hl : (rowOf g (j : Int)).length = 0 := by rw [h0]; rfl
    rw [hl] at hc
    clear hD hns hG hgd hrs hu
    go_enter Try.func70, Try.ntmps70
    go_wp2_with (fail)
    refine hc.out.mono ?_
    rintro e w1 ⟨rfl, hU⟩
    go_wp2
    go_ret
    exact ⟨9, rfl, .of_up hU, by rw [if_pos h0], by rw [if_pos h0]; exact (HS.out.up hU).fn⟩
  · obtain ⟨ln, hln⟩ : ∃ ln, (rowOf g (j : Int)).length = ln + 1 := ⟨(rowOf g (j : Int)).length - 1, by have := List.length_pos_iff.2 h0; omega⟩
    have hRS : Rob tInt (fun W => Sl .i64 W (.slice A (rowOf g (j : Int)).length (rowOf g (j : Int)).length) (rowOf g (j : Int))) w := fun w' k => by
      have hj2 : g.2[(j : Int).toNat]? = some (rowOf g (j : Int)) := by simp [rowOf, List.getD, List.getElem?_eq_getElem hjn]
      exact (hgd w' k).2 _ _ _ hu hj2
    have HSD : Hid (Rob tInt (fun W => Sl .i64 W (.slice A ln (ln + 1)) (rowOf g (j : Int)).dropLast) w) := Lib.hid (fun w' k => by
      have h1 := hRS w' k
      obtain ⟨e, hrv, h2, h3, h4⟩ := h1.rv
      refine ⟨A, ln + 1, by rw [List.length_dropLast, hln]; rfl, by rw [List.length_dropLast, hln]; omega, by omega, fun q => by have := h4 q; omega, fun q => ?_⟩
      obtain ⟨p, e1, hp, hcc⟩ := hrv (fun q2 => h0 (List.map_eq_nil_iff.1 q2))
      refine ⟨p, e1, hp, fun i v hi => hcc i v ?_⟩
      rw [List.map_dropLast, List.getElem?_dropLast] at hi
      split at hi
      · exact hi
      · cases hi)
    have hlm := hrs.max
    unfold maxLen at hlm hm
    rw [hln] at hc hlm hu
    have HD := Lib.hid hD
    have HNS := Lib.hid hns
    have HGD := Lib.hid hgd
    have HU := Lib.hid hu
    have HG := Lib.hid hG
    generalize hgl : g.2.length = n at *
    have HGL := Lib.hid hgl
    have r1 := fun w => (run_cut1 A (ln + 1) (ln + 1) ln (by omega) w).1
    have r2 := fun w => (run_cut1 A (ln + 1) (ln + 1) ln (by omega) w).2
    have H0 := Lib.hid h0
    clear hD hns hG hgd hrs hu hgl h0 hRS
    go_enter Try.func70, Try.ntmps70
    go_wp2_with (fail)
    refine hc.out.mono ?_
    rintro e w1 ⟨rfl, hU⟩
    have hD1 := HD.out.up hU
    have hcD := hD1.cell
    unfold dcs at hcD
    have hlD := hD1.lt
    have hG1 := HG.out.up hU
    have hcG := hG1.cell j
    rw [List.getElem?_toArray, HU.out] at hcG
    have hlG := hG1.lt
    have hfG := hG1.frozen
    have HU1 := Lib.hid hU
    have HG1 := Lib.hid hG1
    clear hD1 hG1 hU hc
    go_wp2_with (fail)
    go_region
    go_wp2
    go_ret
    obtain ⟨k1, k2⟩ := set_fn (base := base) (j := j) HGL.out (HD.out.up HU1.out) (HNS.out.up HU1.out) HG1.out (HGD.out.up HU1.out) (HSD.out.up HU1.out) hge (by rw [HGL.out]; unfold maxLen; exact hm)
    have hU2 : Up (w1.setCell ⟨GS, j, none⟩ (.slice A ln (ln + 1))) (w1.setCell ⟨GS, j, none⟩ (.slice A ln (ln + 1))).drew := (Up.refl _).drew
    exact ⟨0, rfl, ((Kf.of_up HU1.out).trans k1).up hU2, by rw [if_neg H0.out], by rw [if_neg H0.out]; exact k2.up hU2⟩
end Go.Proofs.Ytlocllcijncllaa
