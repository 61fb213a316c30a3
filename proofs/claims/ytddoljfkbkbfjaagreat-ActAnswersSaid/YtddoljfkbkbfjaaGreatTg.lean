/- Handles that are pushed and popped in a step (act's step: next, pop, the closures of kinds): contracts. -/
import Derived.Test.YtddoljfkbkbfjaaGreatTe
namespace Go.Proofs.YtddoljfkbkbfjaaGreat.T
open G
open Go.Joins Go.ChangeShapes Go.WideShapes Go.ChangeAt Go.RowKit Go.Deep Go.Shelf Go.Maps
set_option linter.unusedVariables false
set_option linter.unusedSimpArgs false

section
variable {base D T : Nat} {S3 : List Nat} {h : Hp} {j : Nat} {o : Op} {s : Ks} {w : World} {t : Th}
set_option maxHeartbeats 2000000 in
theorem next_st (hS : St base D T S3 h j o s w) (ht : h.th[j]? = some t) (a : Int) :
    Calls Tryz.prog 83 #[.pointer (some ⟨D, 0, none⟩), .int .u64 a] w (Sp base D T S3 (K.pue t.st) { h with th := h.th.set j { t with st := K.pus t.st a } } j o s w) := by
  obtain ⟨us, P, Q, c, d, A, co, cT, hD, hT, hc1, hc2, hbD, hbT, hR⟩ := id hS
  obtain ⟨u, hu, hO⟩ := hR.at_ ht
  obtain ⟨As, cs, es⟩ := hO.st.slice
  obtain ⟨t0, -⟩ := tcs hT hu
  have HC := fun W (k : Up w W) => npush_any u.st t.st a W (sl_of_rc (hO.st.up k))
  rw [es] at t0 HC
  replace HC := Lib.hid HC
  have hap := hO.sta
  rw [es] at hap
  have HAP := Lib.hid hap
  have HS := Lib.hid hS
  have D0 := hD.drew
  have hcD := D0.cell
  unfold stc at hcD
  have hlD := D0.lt
  have hfD := D0.frozen
  have t0d : w.drew.cell? ⟨T, j * 8, none⟩ = some (.slice As t.st.length cs) := t0
  have tl : T < w.drew.heap.size := hT.lt
  have tb := hT.drew
  have HT := Lib.hid ht
  have UW := (Up.refl w).drew
  clear hS hT hR hu hO es t0 hD hc1 hc2 hbD hbT ht hap
  generalize K.pus t.st a = xs at *
  generalize K.pue t.st = er at *
  generalize t.st.length = n at *
  go_enter Tryz.func83, Tryz.ntmps83
  go_wp2_with (fail)
  go_region_with (go_at_call 105; (refine (HC.out _ UW).mono ?_); rintro e wz ⟨v, rfl, hs, hn, hz⟩; obtain ⟨Av, cv, rfl⟩ := (rc_of_sl hs).slice; have hap := Lib.hid (hn.ap HAP.out (fun g hg => HS.out.lt g hg)); have HSV := Lib.hid hs; clear hs hn; generalize xs.length = m at *; have tz := tb.up hz; have tzl := tz.lt; have tzf := tz.frozen; have tzc := hz.cell t0d; have hZ := D0.up hz; have hcZ := hZ.cell; unfold stc at hcZ; have hlZ := hZ.lt; have hfZ := hZ.frozen)
  all_goals
    go_wp2
    go_ret
    obtain ⟨k1, k2⟩ := HS.out.stack (UW.trans hz) HT.out HSV.out hap.out
    exact ⟨rfl, k1, k2⟩
set_option maxHeartbeats 2000000 in
theorem pop_st (hS : St base D T S3 h j o s w) (ht : h.th[j]? = some t) (hb : t.st.length ≤ 17592186044416) :
    Calls Tryz.prog 88 #[.pointer (some ⟨D, 0, none⟩)] w (Sp base D T S3 (K.poe t.st) { h with th := h.th.set j { t with st := K.pos t.st } } j o s w) := by
  obtain ⟨us, P, Q, c, d, A, co, cT, hD, hT, hc1, hc2, hbD, hbT, hR⟩ := id hS
  obtain ⟨u, hu, hO⟩ := hR.at_ ht
  obtain ⟨As, cs, es⟩ := hO.st.slice
  obtain ⟨t0, -⟩ := tcs hT hu
  have HC := fun W (k : Up w W) => npop_any u.st t.st W (sl_of_rc (hO.st.up k)) hb
  rw [es] at t0 HC
  replace HC := Lib.hid HC
  have hap := hO.sta
  rw [es] at hap
  have HAP := Lib.hid hap
  have HS := Lib.hid hS
  have D0 := hD.drew
  have hcD := D0.cell
  unfold stc at hcD
  have hlD := D0.lt
  have hfD := D0.frozen
  have t0d : w.drew.cell? ⟨T, j * 8, none⟩ = some (.slice As t.st.length cs) := t0
  have tl : T < w.drew.heap.size := hT.lt
  have tb := hT.drew
  have HT := Lib.hid ht
  have UW := (Up.refl w).drew
  clear hS hT hR hu hO es t0 hD hc1 hc2 hbD hbT ht hap
  generalize K.pos t.st = xs at *
  generalize K.poe t.st = er at *
  generalize t.st.length = n at *
  go_enter Tryz.func88, Tryz.ntmps88
  go_wp2_with (fail)
  go_region_with (go_at_call 107; (refine (HC.out _ UW).mono ?_); rintro e wz ⟨v, rfl, hs, hn, hz⟩; obtain ⟨Av, cv, rfl⟩ := (rc_of_sl hs).slice; have hap := Lib.hid (hn.ap HAP.out (fun g hg => HS.out.lt g hg)); have HSV := Lib.hid hs; clear hs hn; generalize xs.length = m at *; have tz := tb.up hz; have tzl := tz.lt; have tzf := tz.frozen; have tzc := hz.cell t0d; have hZ := D0.up hz; have hcZ := hZ.cell; unfold stc at hcZ; have hlZ := hZ.lt; have hfZ := hZ.frozen)
  all_goals
    go_wp2
    go_ret
    obtain ⟨k1, k2⟩ := HS.out.stack (UW.trans hz) HT.out HSV.out hap.out
    exact ⟨rfl, k1, k2⟩
theorem follow_st (hS : St base D T S3 h j o s w) (ht : h.th[j]? = some t) {B : Nat} (hB : Blk w B 74 #[.pointer (some ⟨D, 0, none⟩)]) :
    Calls Tryz.prog 82 #[.pointer (some ⟨B, 0, none⟩)] w (Sp base D T S3 (K.pue t.st) { h with th := h.th.set j { t with st := K.pus t.st s.v } } j o s w) := by
  obtain ⟨us, P, Q, c, d, A, co, cT, hD, hT, hc1, hc2, hbD, hbT, hR⟩ := id hS
  have HC := Lib.hid (fun W (k : Up w W) => next_st (hS.up k) ht s.v)
  have HS := Lib.hid hS
  have D0 := hD.drew
  have hcD := D0.cell
  unfold stc at hcD
  have hlD := D0.lt
  have hfD := D0.frozen
  have bc := hB.cell
  have bl := hB.lt
  have bcd := hB.drew.cell
  have bld := hB.drew.lt
  have UW := (Up.refl w).drew
  clear hS hT hR hD hc1 hc2 hbD hbT hB ht
  go_enter Tryz.func82, Tryz.ntmps82
  go_wp2_with (fail)
  go_region_with (go_at_call 83; (refine (HC.out _ UW).mono ?_); rintro e wz ⟨rfl, h1, h2⟩)
  all_goals
    go_wp2
    go_ret
    exact ⟨rfl, (Kp.of_up UW).trans h1, h2⟩
theorem push_st (hS : St base D T S3 h j o s w) (ht : h.th[j]? = some t) {B : Nat} (hB : Blk w B 74 #[.pointer (some ⟨D, 0, none⟩)]) :
    Calls Tryz.prog 87 #[.pointer (some ⟨B, 0, none⟩)] w (Sp base D T S3 (K.pue t.st) { h with th := h.th.set j { t with st := K.pus t.st s.h } } j o s w) := by
  obtain ⟨us, P, Q, c, d, A, co, cT, hD, hT, hc1, hc2, hbD, hbT, hR⟩ := id hS
  have HC := Lib.hid (fun W (k : Up w W) => next_st (hS.up k) ht s.h)
  have HS := Lib.hid hS
  have D0 := hD.drew
  have hcD := D0.cell
  unfold stc at hcD
  have hlD := D0.lt
  have hfD := D0.frozen
  have bc := hB.cell
  have bl := hB.lt
  have bcd := hB.drew.cell
  have bld := hB.drew.lt
  have UW := (Up.refl w).drew
  clear hS hT hR hD hc1 hc2 hbD hbT hB ht
  go_enter Tryz.func87, Tryz.ntmps87
  go_wp2_with (fail)
  go_region_with (go_at_call 83; (refine (HC.out _ UW).mono ?_); rintro e wz ⟨rfl, h1, h2⟩)
  all_goals
    go_wp2
    go_ret
    exact ⟨rfl, (Kp.of_up UW).trans h1, h2⟩
end
end Go.Proofs.YtddoljfkbkbfjaaGreat.T
