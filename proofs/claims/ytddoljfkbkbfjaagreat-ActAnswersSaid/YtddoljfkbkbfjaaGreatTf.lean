/- A step's single acts: handles, flags (act's step: first, second, full, head, scalar, leads, the closures of kinds): contracts. -/
import Derived.Test.YtddoljfkbkbfjaaGreatTe
namespace Go.Proofs.YtddoljfkbkbfjaaGreat.T
open G
open Go.Joins Go.ChangeShapes Go.WideShapes Go.ChangeAt Go.RowKit Go.Deep Go.Shelf Go.Maps
set_option linter.unusedVariables false
set_option linter.unusedSimpArgs false

theorem aunless_any (b : Bool) (x : Int) (w : World) :
    Calls Tryz.prog 98 #[.bool b, .int .i64 x] w fun e w' => e = .returned (.int .i64 (unl b x)) ∧ w = w' := by
  cases b
  · show Calls Tryz.prog 98 _ w fun e w' => e = .returned (.int .i64 x) ∧ w = w'
    go_enter Tryz.func98, Tryz.ntmps98
    go_wp2
    go_ret
    exact ⟨rfl, rfl⟩
  · show Calls Tryz.prog 98 _ w fun e w' => e = .returned (.int .i64 0) ∧ w = w'
    go_enter Tryz.func98, Tryz.ntmps98
    go_wp2
    go_ret
    exact ⟨rfl, rfl⟩
section
variable {base D T : Nat} {S3 : List Nat} {h : Hp} {j : Nat} {o : Op} {s : Ks} {w : World} {t : Th}
set_option maxHeartbeats 2000000 in
theorem first_st (hS : St base D T S3 h j o s w) (ht : h.th[j]? = some t) :
    Calls Tryz.prog 85 #[.pointer (some ⟨D, 0, none⟩)] w (Sp base D T S3 (K.gte t.st o.h) h j o { s with h := K.gtv t.st o.h } w) := by
  obtain ⟨us, P, Q, c, d, A, co, cT, hD, hT, hc1, hc2, hbD, hbT, hR⟩ := id hS
  obtain ⟨u, hu, hO⟩ := hR.at_ ht
  obtain ⟨As, cs, es⟩ := hO.st.slice
  obtain ⟨t0, -⟩ := tcs hT hu
  have HC := fun W (k : Up w W) => K.get_any u.st t.st o.h W (sl_of_rc (hO.st.up k))
  rw [es] at t0 HC
  replace HC := Lib.hid HC
  have HS := Lib.hid hS
  have D0 := hD.drew
  have hcD := D0.cell
  unfold stc at hcD
  have hlD := D0.lt
  have hfD := D0.frozen
  have t0d : w.drew.cell? ⟨T, j * 8, none⟩ = some (.slice As t.st.length cs) := t0
  have tl : T < w.drew.heap.size := hT.lt
  have UW := (Up.refl w).drew
  clear hS hT hR hu hO es t0 hD hc1 hc2 hbD hbT ht
  generalize K.gtv t.st o.h = x at *
  generalize K.gte t.st o.h = er at *
  generalize t.st.length = n at *
  go_enter Tryz.func85, Tryz.ntmps85
  go_wp2_with (fail)
  go_region_with (go_at_call 106; (refine (HC.out _ UW).mono ?_); rintro e wz ⟨rfl, hz⟩; have hZ := D0.up hz; have hcZ := hZ.cell; unfold stc at hcZ; have hlZ := hZ.lt; have hfZ := hZ.frozen)
  all_goals
    go_wp2
    go_ret
    obtain ⟨k1, k2⟩ := HS.out.setD (UW.trans hz) 27 (.int .u64 x) { s with h := x } (fun _ _ _ _ _ _ => rfl)
    exact ⟨rfl, k1, k2⟩
set_option maxHeartbeats 2000000 in
theorem second_st (hS : St base D T S3 h j o s w) (ht : h.th[j]? = some t) :
    Calls Tryz.prog 84 #[.pointer (some ⟨D, 0, none⟩)] w (Sp base D T S3 (K.gte t.st o.k) h j o { s with k := K.gtv t.st o.k } w) := by
  obtain ⟨us, P, Q, c, d, A, co, cT, hD, hT, hc1, hc2, hbD, hbT, hR⟩ := id hS
  obtain ⟨u, hu, hO⟩ := hR.at_ ht
  obtain ⟨As, cs, es⟩ := hO.st.slice
  obtain ⟨t0, -⟩ := tcs hT hu
  have HC := fun W (k : Up w W) => K.get_any u.st t.st o.k W (sl_of_rc (hO.st.up k))
  rw [es] at t0 HC
  replace HC := Lib.hid HC
  have HS := Lib.hid hS
  have D0 := hD.drew
  have hcD := D0.cell
  unfold stc at hcD
  have hlD := D0.lt
  have hfD := D0.frozen
  have t0d : w.drew.cell? ⟨T, j * 8, none⟩ = some (.slice As t.st.length cs) := t0
  have tl : T < w.drew.heap.size := hT.lt
  have UW := (Up.refl w).drew
  clear hS hT hR hu hO es t0 hD hc1 hc2 hbD hbT ht
  generalize K.gtv t.st o.k = x at *
  generalize K.gte t.st o.k = er at *
  generalize t.st.length = n at *
  go_enter Tryz.func84, Tryz.ntmps84
  go_wp2_with (fail)
  go_region_with (go_at_call 106; (refine (HC.out _ UW).mono ?_); rintro e wz ⟨rfl, hz⟩; have hZ := D0.up hz; have hcZ := hZ.cell; unfold stc at hcZ; have hlZ := hZ.lt; have hfZ := hZ.frozen)
  all_goals
    go_wp2
    go_ret
    obtain ⟨k1, k2⟩ := HS.out.setD (UW.trans hz) 28 (.int .u64 x) { s with k := x } (fun _ _ _ _ _ _ => rfl)
    exact ⟨rfl, k1, k2⟩
theorem full_st (hS : St base D T S3 h j o s w) (ht : h.th[j]? = some t) :
    Calls Tryz.prog 78 #[.pointer (some ⟨D, 0, none⟩)] w (Sp base D T S3 (unl (decide ((t.st.length : Int) < 16)) 4) h j o s w) := by
  obtain ⟨us, P, Q, c, d, A, co, cT, hD, hT, hc1, hc2, hbD, hbT, hR⟩ := id hS
  obtain ⟨u, hu, hO⟩ := hR.at_ ht
  obtain ⟨As, cs, es⟩ := hO.st.slice
  obtain ⟨t0, -⟩ := tcs hT hu
  rw [es] at t0
  have HS := Lib.hid hS
  have D0 := hD
  have hcD := D0.cell
  unfold stc at hcD
  have hlD := D0.lt
  have hfD := D0.frozen
  have tl : T < w.heap.size := hT.lt
  have hle : t.st.length ≤ 9223372036854775807 := by have := hO.st.max; unfold maxLen at this; omega
  clear hS hT hR hu hO es hD hc1 hc2 hbD hbT ht
  generalize t.st.length = n at *
  go_enter Tryz.func78, Tryz.ntmps78
  go_wp2_with (fail)
  refine (aunless_any _ 4 w).mono ?_
  rintro e w1 ⟨rfl, rfl⟩
  go_wp2
  go_ret
  exact ⟨rfl, Kp.refl _ _, HS.out⟩
theorem scalar_st (hS : St base D T S3 h j o s w) :
    Calls Tryz.prog 75 #[.pointer (some ⟨D, 0, none⟩)] w (Sp base D T S3 (unl (!s.p) 8) h j o s w) := by
  obtain ⟨us, P, Q, c, d, A, co, cT, hD, hT, hc1, hc2, hbD, hbT, hR⟩ := id hS
  have HS := Lib.hid hS
  have D0 := hD
  have hcD := D0.cell
  unfold stc at hcD
  have hlD := D0.lt
  have hfD := D0.frozen
  clear hS hT hR hD hc1 hc2 hbD hbT
  go_enter Tryz.func75, Tryz.ntmps75
  go_wp2_with (fail)
  refine (aunless_any _ 8 w).mono ?_
  rintro e w1 ⟨rfl, rfl⟩
  go_wp2
  go_ret
  exact ⟨rfl, Kp.refl _ _, HS.out⟩
theorem leads_st (hS : St base D T S3 h j o s w) :
    Calls Tryz.prog 81 #[.pointer (some ⟨D, 0, none⟩)] w (Sp base D T S3 (unl (s.p) 8) h j o s w) := by
  obtain ⟨us, P, Q, c, d, A, co, cT, hD, hT, hc1, hc2, hbD, hbT, hR⟩ := id hS
  have HS := Lib.hid hS
  have D0 := hD
  have hcD := D0.cell
  unfold stc at hcD
  have hlD := D0.lt
  have hfD := D0.frozen
  clear hS hT hR hD hc1 hc2 hbD hbT
  go_enter Tryz.func81, Tryz.ntmps81
  go_wp2_with (fail)
  refine (aunless_any _ 8 w).mono ?_
  rintro e w1 ⟨rfl, rfl⟩
  go_wp2
  go_ret
  exact ⟨rfl, Kp.refl _ _, HS.out⟩
set_option maxHeartbeats 2000000 in
theorem head_st (hS : St base D T S3 h j o s w) :
    Calls Tryz.prog 77 #[.pointer (some ⟨D, 0, none⟩)] w (Sp base D T S3 (unl (G.okH o.t o.l o.m) 1) h j o s w) := by
  obtain ⟨us, P, Q, c, d, A, co, cT, hD, hT, hc1, hc2, hbD, hbT, hR⟩ := id hS
  have HS := Lib.hid hS
  have D0 := hD
  have hcD := D0.cell
  unfold stc at hcD
  have hlD := D0.lt
  have hfD := D0.frozen
  clear hS hT hR hD hc1 hc2 hbD hbT
  by_cases hr : rte o.t o.l o.m = 0
  · have HC := Lib.hid (fun W => right_is o.t o.l o.m 0 hr W)
    have hb : (o.t != 255) = G.okH o.t o.l o.m := by unfold G.okH; rw [decide_eq_true hr, Bool.true_and]; by_cases q : o.t = 255 <;> simp [q]
    have HB := Lib.hid hb
    clear hb hr
    go_enter Tryz.func77, Tryz.ntmps77
    go_wp2_with (fail)
    refine (HC.out _).mono ?_
    rintro e w1 ⟨rfl, k1⟩
    have hD1 := D0.up k1
    have hc1 := hD1.cell
    unfold stc at hc1
    have hl1 := hD1.lt
    go_wp2_with (fail)
    refine (aunless_any _ 1 w1).mono ?_
    rintro e w2 ⟨rfl, rfl⟩
    go_wp2
    go_ret
    rw [← HB.out]
    exact ⟨rfl, .of_up k1, HS.out.up k1⟩
  · obtain ⟨x, hx⟩ : ∃ x, rte o.t o.l o.m = x := ⟨_, rfl⟩
    rw [hx] at hr
    have HC := Lib.hid (fun W => right_is o.t o.l o.m x hx W)
    have hb0 : (x == 0) = false := beq_eq_false_iff_ne.2 hr
    have HB : Hid (G.okH o.t o.l o.m = false) := Lib.hid (by unfold G.okH; rw [hx, decide_eq_false hr, Bool.false_and])
    clear hx hr
    go_enter Tryz.func77, Tryz.ntmps77
    go_wp2_with (fail)
    refine (HC.out _).mono ?_
    rintro e w1 ⟨rfl, k1⟩
    go_wp2_with (fail)
    refine (aunless_any _ 1 w1).mono ?_
    rintro e w2 ⟨rfl, rfl⟩
    go_wp2
    go_ret
    rw [HB.out]
    exact ⟨rfl, .of_up k1, HS.out.up k1⟩
theorem get_st (hS : St base D T S3 h j o s w) {B : Nat} (hB : Blk w B 74 #[.pointer (some ⟨D, 0, none⟩)]) :
    Calls Tryz.prog 80 #[.pointer (some ⟨B, 0, none⟩)] w (Sp base D T S3 0 h j o { s with w := s.v } w) := by
  obtain ⟨us, P, Q, c, d, A, co, cT, hD, hT, hc1, hc2, hbD, hbT, hR⟩ := id hS
  have HS := Lib.hid hS
  have D0 := hD.drew
  have hcD := D0.cell
  unfold stc at hcD
  have hlD := D0.lt
  have hfD := D0.frozen
  have bc := hB.cell
  have bl := hB.lt
  have bcd := hB.drew.cell
  have bld := hB.drew.lt
  have UW := (Up.refl w).drew
  clear hS hT hR hD hc1 hc2 hbD hbT hB
  go_enter Tryz.func80, Tryz.ntmps80
  go_wp2_with (fail)
  go_region
  all_goals
    go_wp2
    go_ret
    obtain ⟨k1, k2⟩ := HS.out.setD UW 32 (.int .u64 s.v) { s with w := s.v } (fun _ _ _ _ _ _ => rfl)
    exact ⟨rfl, k1, k2⟩
theorem same_st (hS : St base D T S3 h j o s w) {B : Nat} (hB : Blk w B 74 #[.pointer (some ⟨D, 0, none⟩)]) :
    Calls Tryz.prog 86 #[.pointer (some ⟨B, 0, none⟩)] w (Sp base D T S3 0 h j o { s with y := s.h == s.k } w) := by
  obtain ⟨us, P, Q, c, d, A, co, cT, hD, hT, hc1, hc2, hbD, hbT, hR⟩ := id hS
  have HS := Lib.hid hS
  have D0 := hD.drew
  have hcD := D0.cell
  unfold stc at hcD
  have hlD := D0.lt
  have hfD := D0.frozen
  have bc := hB.cell
  have bl := hB.lt
  have bcd := hB.drew.cell
  have bld := hB.drew.lt
  have UW := (Up.refl w).drew
  clear hS hT hR hD hc1 hc2 hbD hbT hB
  go_enter Tryz.func86, Tryz.ntmps86
  go_wp2_with (fail)
  go_region
  all_goals
    go_wp2
    go_ret
    obtain ⟨k1, k2⟩ := HS.out.setD UW 33 (.bool (s.h == s.k)) { s with y := s.h == s.k } (fun _ _ _ _ _ _ => rfl)
    exact ⟨rfl, k1, k2⟩
theorem wait_st (hS : St base D T S3 h j o s w) :
    Calls Tryz.prog 89 #[] w (Sp base D T S3 11 h j o s w) := by
  go_enter Tryz.func89, Tryz.ntmps89
  go_wp2
  go_ret
  exact ⟨rfl, Kp.refl _ _, hS⟩
end
end Go.Proofs.YtddoljfkbkbfjaaGreat.T
