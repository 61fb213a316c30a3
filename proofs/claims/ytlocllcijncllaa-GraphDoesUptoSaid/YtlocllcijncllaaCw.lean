/- graph.Canon's closure: a node that isn't told yet: contract. -/
import Derived.Test.YtlocllcijncllaaCv
namespace Go.Proofs.Ytlocllcijncllaa
open Go.Joins Go.ChangeShapes Go.WideShapes Go.ChangeAt Go.RowKit Go.Deep Go.Shelf Go.Maps
set_option linter.unusedVariables false
set_option linter.unusedSimpArgs false

def UpR (g : Gr) (w0 : World) (GB PB PL OB RB c : Nat) (A : Option Addr) (vs0 vs : Value) (f y : Nat) (vn : Value) (us : List Value) (o : List Int) (w : World) (NB M : Nat) (Fv : Value) (nd : Nd) (i : Value) (wr : World) : Prop :=
  ∃ x vn' us' o', x ≤ nd.2.length ∧ i = .int .i64 (x : Nat) ∧ Hf g w0 GB PB PL OB RB c A vs0 vs f y vn us o w NB M Fv nd x vn' us' o' wr
set_option maxRecDepth 100000 in
set_option maxHeartbeats 4000000 in
theorem reach_new (g : Gr) (w0 : World) (GB PB PL OB RB c : Nat) (A : Option Addr) (vs0 vs : Value) (X : Gx w0 GB PL OB) (hns : Ns w0 (.slice A g.1.length c) g.1) (hR : Rg g) (hN1 : g.1.length ≤ 1000) (f : Nat) (ih : RcAll g w0 GB PB PL OB RB c A vs0 vs f)
    (y : Nat) (vn : Value) (us : List Value) (o : List Int) (w : World) (hC : Cn g w0 GB PB PL OB RB c A vs0 vs vn us o w) (hy : y < g.1.length) (hno : (y : Int) + 1 ∉ o) (hf : g.1.length < f + 1 + o.length) :
    Calls Try.prog 41 #[.int .u64 ((y : Int) + 1), ptv GB, ptv PB, ptv OB, ptv RB] w (RcPost g w0 GB PB PL OB RB c A vs0 vs vn us o (vall g f (ptrs (ndOf g ((y : Int) + 1))) (o ++ [(y : Int) + 1])) ((y : Int) + 1) w) := by
  obtain ⟨us0, hns⟩ := hns
  obtain ⟨p, u, rfl, -, ⟨z0, z1, z2, z3⟩, hsl⟩ := (hns.up hC.up).at_ hy
  have hin : inN g ((y : Int) + 1) := ⟨by omega, by omega⟩
  obtain ⟨nd, hnd⟩ : ∃ nd, nd = ndOf g ((y : Int) + 1) := ⟨_, rfl⟩
  have hnd2 : g.1.getD y ((0, 0, 0), []) = nd := by rw [hnd]; unfold ndOf; rw [show ((y : Int) + 1).toNat - 1 = y from by omega]
  rw [hnd2] at z0 z1 z2 hsl
  have hmem : nd ∈ g.1 := by rw [hnd]; exact ndOf_mem hin
  have hmp := hR.mp nd hmem
  have hl16 : nd.2.length ≤ 16 := by have h1 := hR.hd nd hmem; have h2 := okH_len h1.1; omega
  have hol : o.length ≤ 1000 := by have := hC.td.len; omega
  obtain ⟨Au, cu, rfl⟩ := hsl.slice
  obtain ⟨-, hrv, hnc, hcm, hAu⟩ := hsl.rv
  have HCL := Lib.hid (fun w' (k : Up w w') => clone_u64 Au nd.2.length cu (nd.2.map (Value.int .u64)) w' hAu hnc (by simp) (hrv.up k) (one_ints _ _) (by omega))
  have HP := Lib.hid (fun (x : Nat) (hx : x < nd.2.length) w' => ptr_any nd.1.1 nd.1.2.1 nd.1.2.2 (x : Int) hmp.1 hmp.2 (by omega) w')
  have HCN := Lib.hid hC
  have HND := Lib.hid hnd
  have HH : ∀ NB M, w.heap.size ≤ NB → w.heap.size ≤ M → Hc g w0 PL OB f y us o w NB M nd := fun NB M h1 h2 => ⟨hC.hL.lt, hC.hO.lt, hC.up.size, h1, h2, hC.td, hC.hus, hin, hno, hf, hnd⟩
  have HH := Lib.hid HH
  have HX := Lib.hid ih
  have HNO := Lib.hid hno
  have hcG := hC.hG.cell
  have hlG := hC.hG.lt
  have hcP := hC.hP.cell
  have hlP := hC.hP.lt
  have hcy : w.cell? ⟨PL, y, none⟩ = some (.int .u64 0) := by
    rw [hC.hL.cell, plc_at o hy]
    unfold pl
    rw [if_neg hno]
  have hly := hC.hL.lt
  have hqb := lt_of_cell z3
  have d1 : decide ((y : Int) + 1 < 1) = false := decide_eq_false (by omega)
  have d2 : decide ((y : Int) + 1 > (g.1.length : Int)) = false := decide_eq_false (by omega)
  clear hnd hnd2 hC hno hf ih hR hns hsl hrv hnc hcm hAu hin hmem hmp
  go_enter Try.func41, Try.ntmps41
  have HX0 := Lib.hid X
  have UB := Lib.hid ((Up.refl w).alloc (.cells #[.int .i64 nd.1.1, .int .i64 nd.1.2.1, .int .u64 nd.1.2.2, .slice Au nd.2.length cu] 62))
  clear X
  go_wp2_with (fail)
  refine (HCL.out _ UB.out).mono ?_
  rintro e w1 ⟨v1, rfl, ho1, hU1⟩
  obtain ⟨A1, c1, rfl⟩ := own_slice ho1
  have U1 := UB.out.trans hU1
  have C1 := HCN.out.upw U1
  have N1 := (Blk.new w 62 #[.int .i64 nd.1.1, .int .i64 nd.1.2.1, .int .u64 nd.1.2.2, .slice Au nd.2.length cu]).up hU1
  have hne1 : some w.heap.size ≠ vn.ownBlock := fun e => by have := (HCN.out.geB _ e.symm).2; omega
  have hup := HCN.out.up.size
  have C2 := C1.farN (i := 3) N1 hne1 hup (.slice A1 nd.2.length c1)
  have N2 : Blk (w1.setCell ⟨w.heap.size, 3, none⟩ (.slice A1 nd.2.length c1)) w.heap.size 62 #[.int .i64 nd.1.1, .int .i64 nd.1.2.1, .int .u64 nd.1.2.2, .slice A1 nd.2.length c1] := by simpa using N1.set_ 3 (.slice A1 nd.2.length c1)
  have o2 := own_le (own_far ho1 N1 (by decide) 3 (.slice A1 nd.2.length c1)) (n₁ := w.heap.size) (by simp)
  have hlt1 := World.ownsRow.lt o2
  have U2 : Up w (w1.setCell ⟨w.heap.size, 3, none⟩ (.slice A1 nd.2.length c1)) := U1.setCell (Nat.le_refl _) _
  obtain ⟨gN, cap, wa, hrun, hoa, hga, hla⟩ := run_node (w := (w1.setCell ⟨w.heap.size, 3, none⟩ (.slice A1 nd.2.length c1)).alloc (.cells #[.int .i64 nd.1.1, .int .i64 nd.1.2.1, .int .u64 nd.1.2.2, .slice A1 nd.2.length c1] 62)) 22 w0.heap.size o.length vn _ (C2.upw ((Up.refl _).alloc _)).hN w1.heap.size 1 (.int .i64 nd.1.1) (.int .i64 nd.1.2.1) (.int .u64 nd.1.2.2) (.slice A1 nd.2.length c1) (Blk.new' _ (by simp) _ _)
    (by intro z hz; simp only [List.mem_cons, List.not_mem_nil, or_false] at hz; rcases hz with rfl | rfl | rfl | rfl <;> rfl) (by omega) (Nat.le_trans hup (U2.alloc _).size)
  obtain ⟨C3, K3, X3, B3, b4, b5, b6⟩ := Cn.new HX0.out HCN.out (U2.alloc _) hy HNO.out (by rw [← HND.out]; exact hoa) hga hla
  have hcO2 := C2.hO.cell
  have hlO2 := C2.hO.lt
  have hcN2 := N2.cell
  have hlN2 := N2.lt
  have hcOa := b4.cell
  have hfOa := b4.frozen
  have hlOa := b4.lt
  have hcOb := b5.cell
  have hfP := b6.frozen
  have hcP2 := (b6.cell y).trans ((plc_at o hy).trans (show some (Value.int .u64 (pl o ((y : Int) + 1))) = some (.int .u64 0) from by unfold pl; rw [if_neg HNO.out]))
  have hlP2 := b6.lt
  have hlOb := b5.lt
  have NB3 := (B3 _ _ _ (Nat.le_refl _) (N2.alloc _)).1
  have hcN3 := NB3.cell
  have hlN3 := NB3.lt
  have hN1c := N1.cell
  have hN1f := N1.frozen
  have hN1l := N1.lt
  clear hcG hlG hcP hlP hcy hly z0 z1 z2 z3
  go_wp2_with (at_builtin; refine Lib.wpList_append_run _ rfl _ _ _ _ rfl _ _ rfl rfl _ _ hrun ?_)
  have hmw : w.heap.size ≤ ((wa.setCell ⟨OB, 0, none⟩ (.slice (some ⟨gN, 0, none⟩) (o.length + 1) cap)).setCell ⟨PL, y, none⟩ (.int .u64 ((o.length : Int) + 1))).heap.size := K3.size
  have hown3 : ((wa.setCell ⟨OB, 0, none⟩ (.slice (some ⟨gN, 0, none⟩) (o.length + 1) cap)).setCell ⟨PL, y, none⟩ (.int .u64 ((o.length : Int) + 1))).ownsRow w.heap.size 26 1 (.slice A1 nd.2.length c1) nd.2.length (nd.2.map (Value.int .u64)) ∧ ∀ k, (Value.slice A1 nd.2.length c1).ownBlock = some k → k < ((wa.setCell ⟨OB, 0, none⟩ (.slice (some ⟨gN, 0, none⟩) (o.length + 1) cap)).setCell ⟨PL, y, none⟩ (.int .u64 ((o.length : Int) + 1))).heap.size := by
    have hk : ∀ k t cs, w.heap.size ≤ k → Blk ((w1.setCell ⟨w.heap.size, 3, none⟩ (.slice A1 nd.2.length c1)).alloc (.cells #[.int .i64 nd.1.1, .int .i64 nd.1.2.1, .int .u64 nd.1.2.2, .slice A1 nd.2.length c1] 62)) k t cs → _ := fun k t cs h1 h2 => (B3 k t cs h1 h2).1
    have o3 := own_up o2 (((Up.refl _).alloc (.cells #[.int .i64 nd.1.1, .int .i64 nd.1.2.1, .int .u64 nd.1.2.2, .slice A1 nd.2.length c1] 62)))
    have o4 : ((wa.setCell ⟨OB, 0, none⟩ (.slice (some ⟨gN, 0, none⟩) (o.length + 1) cap)).setCell ⟨PL, y, none⟩ (.int .u64 ((o.length : Int) + 1))).ownsRow w.heap.size 26 1 (.slice A1 nd.2.length c1) nd.2.length (nd.2.map (Value.int .u64)) :=
      ⟨o3.1, o3.2.imp id fun ⟨g', cp, cur, q1, q2, q3, r⟩ => ⟨g', cp, cur, q1, q2, hk g' _ _ q2 q3, r⟩⟩
    exact ⟨o4, fun k e => (World.ownsRow.lt o4 k e).2⟩
  have hst : Hf g w0 GB PB PL OB RB c (some p) vs0 vs f y vn us o w w.heap.size ((wa.setCell ⟨OB, 0, none⟩ (.slice (some ⟨gN, 0, none⟩) (o.length + 1) cap)).setCell ⟨PL, y, none⟩ (.int .u64 ((o.length : Int) + 1))).heap.size (.slice A1 nd.2.length c1) nd 0 _ _ _ _ :=
    ⟨rfl, C3, K3, X3, List.prefix_refl _, fun k u m h1 h2 h3 => (by
      have q : (o ++ [(y : Int) + 1])[k]? = none := List.getElem?_eq_none (by simpa using h1)
      replace h3 : (o ++ [(y : Int) + 1])[k]? = some m := h3
      rw [q] at h3
      cases h3), by rw [half_0]; exact hown3.1, hown3.2, NB3, (B3 _ _ _ (Nat.le_refl _) (N2.alloc _)).2, Nat.le_refl _⟩
  have HST := Lib.hid hst
  have HCC := Lib.hid (HH.out w.heap.size _ (Nat.le_refl _) hmw)
  have hN3 : Hid (∀ wr, Blk wr RB 83 #[rov GB PB OB RB] → wr.cell? ⟨RB, 0, none⟩ = some (rov GB PB OB RB)) := Lib.hid (fun wr h => h.cell 0)
  clear hown3 hst hrun hoa hga hla C1 N1 C2 N2 o2 hlt1 U1 U2 hU1 ho1 C3 K3 X3 B3 b4 b5 b6 hcO2 hlO2 hcN2 hlN2 hcOa hfOa hlOa hcOb hfP hlP2 hlOb NB3 hcN3 hlN3 hN1c hN1f hN1l hcP2 hmw UB HCL hne1 hup HH
  generalize (wa.setCell ⟨OB, 0, none⟩ (.slice (some ⟨gN, 0, none⟩) (o.length + 1) cap)).setCell ⟨PL, y, none⟩ (.int .u64 ((o.length : Int) + 1)) = w3 at *
  go_loopw [54] (fun i wr => UpR g w0 GB PB PL OB RB c (some p) vs0 vs f y vn us o w w.heap.size w3.heap.size (.slice A1 nd.2.length c1) nd i wr) (fun i _ => nd.2.length - (intOf i).toNat)
  case atStart => exact ⟨0, _, _, _, Nat.zero_le _, rfl, HST.out⟩
  case round =>
    rename World => wr
    obtain ⟨x, vn', us', o', hx, rfl, hF⟩ := hrel
    by_cases hlt : x < nd.2.length
    · have HF := Lib.hid hF
      obtain ⟨FB, rfl⟩ : ∃ FB, A1 = some ⟨FB, 0, none⟩ := by
        rcases hF.own.2 with ⟨q, q2⟩ | ⟨g', cp, cur, q, _⟩
        · omega
        · cases q; exact ⟨_, rfl⟩
      obtain ⟨v, hv⟩ : ∃ v, nd.2.getD x 0 = v := ⟨_, rfl⟩
      have hcx : wr.cell? ⟨FB, x, none⟩ = some (.int .u64 v) := by
        obtain ⟨_, _, _, _, hrv⟩ := rv_of_own hF.own (by rw [List.length_map, half_len]; omega)
        obtain ⟨p', e, hc⟩ := hrv.at_ (j := x) (by rw [List.length_map, half_len]; exact hlt)
        cases e
        rw [add_zero'] at hc
        rw [hc, List.getElem_map]
        have h1 := half_at o' nd x hlt
        rw [if_neg (by omega), hv] at h1
        have h2 : x < (half o' nd x).length := by rw [half_len]; exact hlt
        simp only [List.getD, List.getElem?_eq_getElem h2, Option.getD_some] at h1
        rw [h1]
      have hlx := lt_of_cell hcx
      have hcN := hF.nb.cell
      have hlN := hF.nb.lt
      have HPx := Lib.hid (HP.out x hlt)
      have HV := Lib.hid hv
      clear hF hv
      generalize hpp : ptb nd.1.2.1 nd.1.2.2 (x : Int) = bp at HPx
      have hip : isP nd (x : Int) = bp := hpp
      clear hpp
      have HIP := Lib.hid hip
      clear hip
      cases bp
      · go_wp2_with (fail)
        refine (HPx.out _).mono ?_
        rintro e w4 ⟨rfl, hU4⟩
        have HF4 := Lib.hid (HF.out.no HIP.out hU4)
        clear hU4
        go_wp2
        exact ⟨⟨x + 1, _, _, _, by omega, by go_num, HF4.out⟩, by simp [intOf]; omega⟩
      · go_wp2_with (fail)
        refine (HPx.out _).mono ?_
        rintro e w4 ⟨rfl, hU4⟩
        have F4 := HF.out.up hU4.drew
        have HF4 := Lib.hid F4
        have hcN4 := F4.nb.cell
        have hlN4 := F4.nb.lt
        have hcR4 := F4.cn.hR.cell
        have hfu : g.1.length < f + o'.length := by
          have h1 := (HCC.out.more (pup nd x)).pre.length_le
          rw [← F4.oe] at h1
          have h2 := HCC.out.fu
          have h3 : (o ++ [(y : Int) + 1]).length = o.length + 1 := by simp
          omega
        have HCL := Lib.hid (HX.out v _ _ _ _ F4.cn hfu)
        clear F4 hU4 hcN hlN hcx hlx
        go_wp2_with (fail)
        go_region_with (first
          | (go_at_call 41; ((with_reducible refine HCL.out.mono ?_); rintro e w5 hpost; obtain ⟨rfl, nb5, ⟨cur, hB5, hsz⟩, vn2, us2, hF5⟩ := HF4.out.yes HCC.out HIP.out hlt HV.out hpost rfl; have HF5 := Lib.hid hF5; have hcN5 := nb5.cell; have hlN5 := nb5.lt; have hfB5 := hB5.frozen; have hcB5 := (hB5.cell x).trans (Array.getElem?_eq_getElem hsz); have hlB5 := hB5.lt; clear hpost hF5 nb5 hB5)))
        all_goals
          go_wp2
          exact ⟨⟨x + 1, _, _, _, by omega, by go_num, HF5.out⟩, by simp [intOf]; omega⟩
    · obtain rfl : x = nd.2.length := by omega
      obtain ⟨e2, hpost⟩ := hF.done HCC.out rfl
      have hcP := hF.cn.hP.cell
      have hlP := hF.cn.hP.lt
      have hcy := (hF.cn.hL.cell y).trans (plc_at o' hy)
      have hly := hF.cn.hL.lt
      rw [e2] at hpost hcy
      clear hF e2 HST
      generalize pl (vall g f (ptrs (ndOf g ((y : Int) + 1))) (o ++ [(y : Int) + 1])) ((y : Int) + 1) = pv at *
      have HPO := Lib.hid hpost
      clear hpost
      go_wp2
      go_ret
      exact HPO.out
/-- The closure, wherever it is asked. -/
theorem reach_any (g : Gr) (w0 : World) (GB PB PL OB RB c : Nat) (A : Option Addr) (vs0 vs : Value) (X : Gx w0 GB PL OB) (hns : Ns w0 (.slice A g.1.length c) g.1) (hR : Rg g) (hN1 : g.1.length ≤ 1000) : ∀ f, RcAll g w0 GB PB PL OB RB c A vs0 vs f := by
  intro f
  induction f with
  | zero => intro n vn us o w hC h; have := hC.td.len; omega
  | succ f ih =>
    intro n vn us o w hC h
    have same : vis g (f + 1) n o = o → ∀ e w', e = .returned (.int .u64 (pl o n)) ∧ w' = w → RcPost g w0 GB PB PL OB RB c A vs0 vs vn us o (vis g (f + 1) n o) n w e w' := by
      rintro hv e w' ⟨rfl, rfl⟩
      rw [hv]
      refine ⟨vn, us, rfl, hC, Kc.refl _, Nx.refl _ _, List.prefix_refl _, fun k u m h1 h2 h3 => ?_⟩
      rw [List.getElem?_eq_none h1] at h3
      cases h3
    by_cases hin : inN g n
    · obtain ⟨y, rfl⟩ : ∃ y : Nat, n = (y : Int) + 1 := ⟨n.toNat - 1, by have := hin.1; omega⟩
      have hy : y < g.1.length := by have := hin.2; omega
      by_cases hm : (y : Int) + 1 ∈ o
      · have h1 := (pl_in hm).1
        exact (reach_told GB PB PL OB RB g.1.length c y A vs0 _ w hC.hG hC.hP ((hC.hL.cell y).trans (plc_at o hy)) (by omega) hy (by omega)).mono (same (vis_no (fun q => q.2 hm)))
      · rw [vis_yes hin hm]
        exact reach_new g w0 GB PB PL OB RB c A vs0 vs X hns hR hN1 f ih y vn us o w hC hy hm h
    · have h0 := pl_out hC.td hin
      refine (reach_out GB PB OB RB g.1.length c A vs0 n w hC.hG (by omega) (by unfold inN at hin; omega)).mono ?_
      rintro e w' ⟨rfl, rfl⟩
      exact same (vis_no (fun q => hin q.1)) _ _ ⟨by rw [h0], rfl⟩
end Go.Proofs.Ytlocllcijncllaa
