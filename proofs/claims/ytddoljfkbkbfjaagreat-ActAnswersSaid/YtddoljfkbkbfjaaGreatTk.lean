/- A heap once more, which shares nothing with it (act.copied): contract. -/
import Derived.Test.YtddoljfkbkbfjaaGreatTr
import Derived.Deep.CutRange
namespace Go.Proofs.YtddoljfkbkbfjaaGreat.T
open G
open Go.Joins Go.ChangeShapes Go.WideShapes Go.ChangeAt Go.RowKit Go.Deep Go.Shelf Go.Maps
set_option linter.unusedVariables false
set_option linter.unusedSimpArgs false

set_option maxRecDepth 100000 in
set_option maxHeartbeats 8000000 in
theorem copied_any (h : Hp) (P Q : Addr) (c d : Nat) (vt vo : Value) (us0 : List Tv) (w : World) (hm : Sits w h.m P Q c d) (ht : Rc tvc w vt us0) (hr : ThsR w us0 h.th) (ho : Rc inc w vo h.od) (hF : HpF h) (hne : h.th ≠ []) :
    Calls Tryz.prog 53 #[.agg (hpc h P Q c d vt vo)] w (CpPost h w) := by
  have hn4 := hm.1.2.1
  have hxl := hm.1.2.2.1
  have hyl := hm.1.2.2.2
  have hxr : Rc wdc w (.slice (some P) h.m.n c) h.m.xs := rc_of_sl ⟨some P, c, by rw [hxl], by rw [hxl]; exact hm.2.1, hm.2.2.1, fun q => (by cases q), rfl, fun _ => ⟨P, rfl, hm.2.2.2.2.2.1⟩⟩
  have hyr : Rc wdc w (.slice (some Q) h.m.n d) h.m.ys := rc_of_sl ⟨some Q, d, by rw [hyl], by rw [hyl]; exact hm.2.2.2.1, hm.2.2.2.2.1, fun q => (by cases q), rfl, fun _ => ⟨Q, rfl, hm.2.2.2.2.2.2⟩⟩
  have HX := Lib.hid (fun W (k : Up w W) => clone_w _ h.m.xs h.m.n W (hxr.up k) hxl (by omega))
  have HY := Lib.hid (fun W (k : Up w W) => clone_w _ h.m.ys h.m.n W (hyr.up k) hyl (by omega))
  obtain ⟨At, ct, rfl⟩ := ht.slice
  obtain ⟨Ao, co, rfl⟩ := ho.slice
  have hul := hr.1
  have hne0 : us0 ≠ [] := fun q => by rw [q] at hul; exact hne (List.eq_nil_of_length_eq_zero hul.symm)
  rw [hul] at ht
  have HT := Lib.hid (fun W (k : Up w W) => clone_t _ us0 h.th.length W (ht.up k) hul (by have := hF.n; omega))
  have HO := Lib.hid (fun W (k : Up w W) => clone_n _ h.od h.od.length W (ho.up k) rfl (by have := hF.od; omega))
  unfold hpc
  have HM0 := Lib.hid hm.1
  clear hxr hyr hn4 hxl hyl hm
  rw [hul]
  generalize hN : h.m.n = N at *
  generalize hn : h.th.length = n at *
  generalize hol : h.od.length = ol at *
  have HN := Lib.hid hN
  have HN' := Lib.hid hn
  have HOL := Lib.hid hol
  clear hN hn hol
  have i0 : ∀ w, (Instr.index 23 (.agg #[.slice (some P) N c, .slice (some Q) N d]) (.int .i64 0)).run Tryz.prog w = .ok (.slice (some P) N c) w := fun _ => by kernel_rfl
  have i1 : ∀ w, (Instr.index 23 (.agg #[.slice (some P) N c, .slice (some Q) N d]) (.int .i64 1)).run Tryz.prog w = .ok (.slice (some Q) N d) w := fun _ => by kernel_rfl
  go_enter Tryz.func53, Tryz.ntmps53
  go_wp2_with (fail)
  refine wp_loop_rounds 3 ?_
  rw [rounds_succ]
  go_wp2_with (fail)
  refine calls_at (fun V hV => ?_)
  have B0 : Blk V w.heap.size 32 #[.int .i64 N, .slice (some P) N c, .slice (some Q) N d, .int .i64 h.fs, .int .i64 h.fa, .int .i64 h.fl, .int .i64 h.ts, .int .i64 h.ta, .int .i64 h.tl, .int .i64 h.sz, .int .i64 h.lg, .slice At n ct, .int .i64 h.ph, .int .i64 h.sc, .int .i64 h.fp, .slice Ao ol co, .int .i64 h.bk] := by rw [hV]; exact (Blk.new' _ (by simp) _ _).alloc _
  have B1 : Blk V (w.heap.size + 1) 32 #[.int .i64 0, .slice none 0 0, .slice none 0 0, .int .i64 0, .int .i64 0, .int .i64 0, .int .i64 0, .int .i64 0, .int .i64 0, .int .i64 0, .int .i64 0, .slice none 0 0, .int .i64 0, .int .i64 0, .int .i64 0, .slice none 0 0, .int .i64 0] := by rw [hV]; exact Blk.new' _ (by simp) _ _
  have U0 : Up w V := by rw [hV]; exact ((Up.refl w).alloc _).alloc _
  clear hV
  have L0 := B1.lt
  refine (HX.out _ U0).mono ?_
  rintro e w1 ⟨P1, c1, rfl, hC1, k1⟩
  have B0 := B0.up k1
  have B1 := B1.up k1
  have U1 := U0.trans k1
  have C1 := hC1.mono (lo' := w.heap.size + 2) (by omega) (Nat.le_refl _)
  clear U0 k1 hC1 L0
  have B0c := B0.cell
  have B0f := B0.frozen
  have B0l := B0.lt
  go_wp2_with (fail)
  rw [rounds_succ]
  go_wp2_with (fail)
  refine calls_at (fun V hV => ?_)
  have KV : Kp [w.heap.size] w1 V := by rw [hV]; exact (Kp.refl _ _).set_ (by simp) _
  have B0 : Blk V w.heap.size 32 #[.int .i64 N, .slice P1 N c1, .slice (some Q) N d, .int .i64 h.fs, .int .i64 h.fa, .int .i64 h.fl, .int .i64 h.ts, .int .i64 h.ta, .int .i64 h.tl, .int .i64 h.sz, .int .i64 h.lg, .slice At n ct, .int .i64 h.ph, .int .i64 h.sc, .int .i64 h.fp, .slice Ao ol co, .int .i64 h.bk] := by rw [hV]; exact B0.set_ 1 _
  have B1 := B1.kp KV (by simp)
  have C1 := C1.kp KV (fun g _ q _ _ => by simp; omega)
  have U1 := U1.kp KV (by simp)
  have L2 := B1.lt
  have hs1 : w1.heap.size ≤ V.heap.size := KV.size
  clear hV KV B0c B0f B0l
  refine (HY.out _ U1).mono ?_
  rintro e w2 ⟨Q2, c2, rfl, hC2, k2⟩
  have B0 := B0.up k2
  have B1 := B1.up k2
  have C1 := C1.up k2
  have U2 := U1.trans k2
  have hs1 : w1.heap.size ≤ w2.heap.size := Nat.le_trans hs1 k2.size
  have C2 := hC2.mono (lo' := w.heap.size + 2) (by omega) (Nat.le_refl _)
  clear U1 k2 hC2 L2
  have B0c := B0.cell
  have B0f := B0.frozen
  have B0l := B0.lt
  go_wp2_with (fail)
  rw [rounds_succ]
  go_wp2_with (fail)
  go_upto_region 6 with fail
  generalize hW : (w2.setCell ⟨w.heap.size, 2, none⟩ (.slice Q2 N c2)) = W at *
  have KV : Kp [w.heap.size] w2 W := by rw [← hW]; exact (Kp.refl _ _).set_ (by simp) _
  have B0 : Blk W w.heap.size 32 #[.int .i64 N, .slice P1 N c1, .slice Q2 N c2, .int .i64 h.fs, .int .i64 h.fa, .int .i64 h.fl, .int .i64 h.ts, .int .i64 h.ta, .int .i64 h.tl, .int .i64 h.sz, .int .i64 h.lg, .slice At n ct, .int .i64 h.ph, .int .i64 h.sc, .int .i64 h.fp, .slice Ao ol co, .int .i64 h.bk] := by rw [← hW]; exact B0.set_ 2 _
  have B1 := B1.kp KV (by simp)
  have C1 := C1.kp KV (fun g _ q _ _ => by simp; omega)
  have C2 := C2.kp KV (fun g _ q _ _ => by simp; omega)
  have hs1 : w1.heap.size ≤ W.heap.size := Nat.le_trans hs1 KV.size
  have hs2 : w2.heap.size ≤ W.heap.size := KV.size
  have U2 := U2.kp KV (by simp)
  have HC := Lib.hid (fun Aa ca Ab cb wa wb hCa UA hCb UB => cq_of (wa := wa) (wb := wb) (Aa := Aa) (Ab := Ab) (ca := ca) (cb := cb) hul hne0 B0.drew B1.drew (C1.up (Up.refl W).drew) (C2.up (Up.refl W).drew) hs1 hs2 U2.drew hCa UA hCb UB)
  clear KV B0c B0f B0l hW
  have HB := Lib.hid B0.drew
  have U2 := U2.drew
  have B0c := HB.out.cell
  have B0f := HB.out.frozen
  have B0l := HB.out.lt
  clear B0 B1 C1 C2
  go_cut [23, 26] from 21 to 28 (fun v23 v26 wx => ∃ T cT A2 co2, v23 = .slice (some ⟨T, 0, none⟩) n cT ∧ v26 = .slice A2 ol co2 ∧ Cq h w N n ol P1 c1 Q2 c2 T cT A2 co2 us0 wx)
  case first =>
    go_region_with (first
      | (go_at_call 69; ((with_reducible refine (HT.out _ U2).mono ?_); rintro e wa ⟨Aa, ca, rfl, hCa, UA⟩; have BA := HB.out.up UA; have BAc := BA.cell; have BAf := BA.frozen; have BAl := BA.lt))
      | (go_at_call 70; ((with_reducible refine (HO.out _ (U2.trans UA)).mono ?_); rintro e wb ⟨Ab, cb, rfl, hCb, UB⟩; have BZ := BA.up UB; have BZc := BZ.cell; have BZf := BZ.frozen; have BZl := BZ.lt)))
    all_goals
      go_wp2_with (fail)
      go_meet
      obtain ⟨T, e, hq⟩ := HC.out _ _ _ _ _ _ hCa UA hCb UB
      subst e
      exact ⟨_, _, _, _, rfl, rfl, hq⟩
  case rest =>
    obtain ⟨T, cT, A2, co2, rfl, rfl, hq⟩ := hcut
    rename World => wx
    have hn4 : n ≤ 4 := by have := hF.n; rw [HN'.out] at this; exact this
    have HQ := Lib.hid hq
    have hTl := hq.t.lt
    have hlo := hq.h3
    have hb0 := hq.b0
    have b0c := hb0.cell
    have b0f := hb0.frozen
    have b0l := hb0.lt
    have HB0 := Lib.hid hb0
    have HNE := Lib.hid hne
    clear hq hb0 B0c B0f B0l HB HC U2 HX HY HT HO HNE hs1 hs2 hne hne0 i0 i1 ho
    have HUL := Lib.hid hul
    have HTR := Lib.hid ht
    clear ht hul
    go_wp2_with (fail)
    go_loopw [32] (fun i wr => ∃ (x : Nat) (us : List Tv) (bs : Nat → Nat), x ≤ n ∧ i = .int .i64 x ∧ Lc h wx T (List.replicate (cT - n) tz) us0 x us bs wr) (fun i _ => n - (intOf i).toNat)
    case atStart => exact ⟨0, us0, fun _ => wx.heap.size, Nat.zero_le _, rfl, Kp.refl _ _, HQ.out.t, rfl, fun _ _ => rfl, fun _ _ _ q => absurd q (by omega), fun _ q => absurd q (by omega), rfl, Nat.le_refl _⟩
    case round =>
      rename World => wr
      obtain ⟨x, us, bs, hx, rfl, hl⟩ := hrel
      have hn2 : us.length = n := hl.n.trans HUL.out
      have b0 := HB0.out.kp hl.k (by simp; omega)
      have b0c' := b0.cell
      have b0f' := b0.frozen
      have b0l' := b0.lt
      by_cases hlt : x < n
      · have hxu : x < us.length := by omega
        obtain ⟨u, hu⟩ : ∃ u, us[x]? = some u := ⟨_, List.getElem?_eq_getElem hxu⟩
        have hu0 : us0[x]? = some u := by rw [← hl.old x (Nat.le_refl _)]; exact hu
        obtain ⟨t, ht⟩ : ∃ t, h.th[x]? = some t := ⟨_, List.getElem?_eq_getElem (by rw [HN'.out]; exact hlt)⟩
        have hru := hr.2 x u t hu0 ht
        have htf := hF.th t (List.mem_of_getElem? ht)
        have hU : Up w wr := HQ.out.up.kp hl.k (by simp; omega)
        obtain ⟨ust, uba, ube, ulg, ulf, upd, uwt, udn⟩ := u
        obtain ⟨r1, rba, rbe, r2, r3, r4, rwt, r5⟩ := hru
        simp only at r1 rba rbe r2 r3 r4 rwt r5
        obtain ⟨A3, c3, rfl⟩ := r1.slice
        obtain ⟨A4, c4, rfl⟩ := r2.slice
        obtain ⟨A5, c5, rfl⟩ := r3.slice
        obtain ⟨A6, c6, rfl⟩ := r4.slice
        obtain ⟨A7, c7, rfl⟩ := r5.slice
        have HC1 := Lib.hid (fun W (k : Up wr W) => clone_w _ t.st t.st.length W (r1.up (hU.trans k)) rfl (by have := htf.st; omega))
        have HC2 := Lib.hid (fun W (k : Up wr W) => clone_o _ t.lf t.lf.length W (r3.up (hU.trans k)) rfl (by have := htf.lf; omega))
        have HC3 := Lib.hid (fun W (k : Up wr W) => clone_a _ t.dn t.dn.length W (r5.up (hU.trans k)) rfl (by have := htf.dn; omega))
        have HC4 := Lib.hid (fun W (k : Up w W) => clone_e _ t.lg t.lg.length W (r2.up k) rfl (by have := htf.lg; omega))
        have HC5 := Lib.hid (fun W (k : Up w W) => clone_e _ t.pd t.pd.length W (r4.up k) rfl (by have := htf.pd; omega))
        have HR := Lib.hid (fun v1 v2 v3 wa wb wc w5 h1 UA h2 UB h3 UC h5 => reg11 (t := t) (v1 := v1) (v2 := v2) (v3 := v3) (wa := wa) (wb := wb) (wc := wc) (w5 := w5) hl.t.drew hu h1 UA h2 UB h3 UC h5)
        have tc : Hid (∀ W, Up wr W → W.cell? ⟨T, x * 8, none⟩ = some (.slice A3 t.st.length c3) ∧ W.cell? ⟨T, x * 8 + 3, none⟩ = some (.slice A4 t.lg.length c4) ∧ W.cell? ⟨T, x * 8 + 4, none⟩ = some (.slice A5 t.lf.length c5) ∧ W.cell? ⟨T, x * 8 + 5, none⟩ = some (.slice A6 t.pd.length c6) ∧ W.cell? ⟨T, x * 8 + 7, none⟩ = some (.slice A7 t.dn.length c7)) := Lib.hid (fun W k => by
          obtain ⟨a0, -, -, a3, a4, a5, -, a7⟩ := tget (hl.t.up k) hu
          exact ⟨a0, a3, a4, a5, a7⟩)
        have HTb := Lib.hid hl.t
        have HL := Lib.hid hl
        have HU := Lib.hid hU
        have HRR := Lib.hid (And.intro rba (And.intro rbe rwt))
        have HT2 := Lib.hid ht
        have Hu := Lib.hid hu
        clear r1 r2 r3 r4 r5 htf hl hU hu hu0 ht rba rbe rwt hxu
        generalize hn1 : t.st.length = n1 at *
        generalize hn2 : t.lg.length = n2 at *
        generalize hn3 : t.lf.length = n3 at *
        generalize hn4 : t.pd.length = n4 at *
        generalize hn5 : t.dn.length = n5 at *
        clear hn1 hn2 hn3 hn4 hn5
        go_upto_region 11 with fail
        refine copied11_wp (t := t) HTb Hu HC1 HC2 HC3 _ _ _ _ _ _ _ _ _ _ _ _ _ _ _ _ _ _ _ _ _ _ _ _ _ _ _ _ _ _ _ _ _ _ _ _ _ _ _ _ _ _ _ _ _ _ _ _ _ _ _ _ _ _ _ _ _ _ _ _ _ _ _ _ _ _ _ _ _ _ _ _ _ _ _ _ _ _ _ _ _ _ (Lib.hid ?_)
        intro y39 y40 y41 y42 y43 y44 y45 y46 y47 y48 y49 y50 y51 y52 y53 y54 y55 y56 y57 y58 y59 y60 y61 y62 w5 hrest
        obtain ⟨v1, v2, v3, K5, T5, D1, D2, D3⟩ := hrest
        have hx5 : (us.set x ⟨v1, uba, ube, .slice A4 n2 c4, v2, .slice A6 n4 c6, uwt, v3⟩)[x]? = some ⟨v1, uba, ube, .slice A4 n2 c4, v2, .slice A6 n4 c6, uwt, v3⟩ := List.getElem?_set_self (by have := HL.out.n; have := HUL.out; omega)
        have HU5 := Lib.hid (HU.out.kp K5 (by simp; omega))
        have HR2 := Lib.hid (fun v1 v2 wa wb w6 h1 UA h2 UB h5 => reg12 (t := t) (v1 := v1) (v2 := v2) (wa := wa) (wb := wb) (w5 := w6) T5.drew hx5 h1 UA h2 UB h5)
        have tc5 : Hid (∀ W, Up w5 W → W.cell? ⟨T, x * 8 + 3, none⟩ = some (.slice A4 n2 c4) ∧ W.cell? ⟨T, x * 8 + 5, none⟩ = some (.slice A6 n4 c6)) := Lib.hid (fun W k => by
          obtain ⟨-, -, -, a3, -, a5, -, -⟩ := tget (T5.up k) hx5
          exact ⟨a3, a5⟩)
        have HT5 := Lib.hid T5
        have HK5 := Lib.hid K5
        have HD := Lib.hid (And.intro D1 (And.intro D2 D3))
        clear K5 T5 D1 D2 D3 hx5 HR HC1 HC2 HC3 tc
        go_upto_region 12 with fail
        obtain ⟨t3, t5⟩ := tc5.out _ (Up.refl w5)
        obtain ⟨t3d, t5d⟩ := tc5.out _ (Up.refl w5).drew
        have tl := HT5.out.lt
        have tf := HT5.out.frozen
        have tfd := HT5.out.drew.frozen
        have UD := (Up.refl w5).drew
        go_region_with (first
          | (go_at_call 73; ((with_reducible refine (HC4.out _ (HU5.out.trans UD)).mono ?_); rintro e wa ⟨Aa, ca, rfl, hCa, UA⟩; obtain ⟨ta3, ta5⟩ := tc5.out _ (UD.trans UA)))
          | (go_at_call 73; ((with_reducible refine (HC5.out _ ((HU5.out.trans UD).trans UA)).mono ?_); rintro e wb ⟨Ab, cb, rfl, hCb, UB⟩; obtain ⟨tz3, tz5⟩ := tc5.out _ ((UD.trans UA).trans UB); have tzb := HT5.out.up ((UD.trans UA).trans UB); have tzf := tzb.frozen; have tzl := tzb.lt)))
        all_goals
          obtain ⟨K6, T6, mid, m1, m2, E1, E2⟩ := HR2.out _ _ _ _ _ hCa UA hCb UB rfl
          rw [List.set_set] at T6
          have HF := Lib.hid (HL.out.next (u' := ⟨v1, uba, ube, _, v2, _, uwt, v3⟩) (t := t) hTl (by have := HL.out.n; have := HUL.out; omega) HT2.out (HK5.out.trans ((Kp.of_up (Up.refl w5).drew).trans K6)) T6 (by
            obtain ⟨D1, D2, D3⟩ := HD.out
            have k5 := HK5.out.size
            have k6 := K6.size
            have kx := HL.out.k.size
            have K6' := (Kp.of_up (S := [T]) (Up.refl w5).drew).trans K6
            have m1' : w5.heap.size ≤ mid := m1
            refine ⟨HRR.out.1, HRR.out.2.1, HRR.out.2.2, mid, by omega, m2, (D1.kp K6' fun g _ q _ _ => by simp; omega).mono (Nat.le_refl _) m1', (D2.kp K6' fun g _ q _ _ => by simp; omega).mono (Nat.le_refl _) m1', (D3.kp K6' fun g _ q _ _ => by simp; omega).mono (Nat.le_refl _) m1', E1.mono k5 (Nat.le_refl _), E2⟩))
          clear K6 T6 m1 m2 E1 E2 hCa UA hCb UB ta3 ta5 tz3 tz5 tzb tzf tzl
          go_wp2
          exact ⟨⟨x + 1, _, _, by omega, by go_num, HF.out⟩, by simp [intOf]; omega⟩
      · obtain rfl : n = x := by omega
        have HQ2 := Lib.hid (HQ.out.kp hl.k hl.t)
        have HL := Lib.hid hl
        have bb := HQ2.out.b1
        have bbc := bb.cell
        have bbf := bb.frozen
        have bbl := bb.lt
        have HBB := Lib.hid bb
        clear hl bb hn2
        go_wp2_with (fail)
        refine bodyPost_ret (ret_heap rfl _ _ _ _ _ _ _ _ _ _ _ _ _ _ _ _ _ _ _ _ rfl (Blk.set17 HBB.out _ _ _ _ _ _ _ _ _ _ _ _ _ _ _ _ _)) rfl ?_
        have q := HQ2.out
        have KK := kp_set17 wr (w.heap.size + 1) (.int .i64 N) (.slice P1 N c1) (.slice Q2 N c2) (.int .i64 h.fs) (.int .i64 h.fa) (.int .i64 h.fl) (.int .i64 h.ts) (.int .i64 h.ta) (.int .i64 h.tl) (.int .i64 h.sz) (.int .i64 h.lg) (.slice (some ⟨T, 0, none⟩) n cT) (.int .i64 h.ph) (.int .i64 h.sc) (.int .i64 h.fp) (.slice A2 ol co2) (.int .i64 h.bk)
        have hnd : (w.heap.size + 1) ≠ T := by have := q.h3; omega
        have X' := (q.x.kp KK (fun g _ h0 _ _ => by simp; omega)).rc
        have Y' := (q.y.kp KK (fun g _ h0 _ _ => by simp; omega)).rc
        have hm0 := HM0.out
        rcases q.x with ⟨e0, _⟩ | ⟨_, gx, cx, ex, gx1, gx2, gx3, gx4, gx5⟩
        · have := hm0.2.2.1; rw [e0] at this; have := hm0.1; simp at *; omega
        rcases q.y with ⟨e0, _⟩ | ⟨_, gy, cy, ey, gy1, gy2, gy3, gy4, gy5⟩
        · have := hm0.2.2.2; rw [e0] at this; have := hm0.1; simp at *; omega
        have hN := HN.out
        have hXl : h.m.xs.length = N := by rw [← hN]; exact hm0.2.2.1
        have hYl : h.m.ys.length = N := by rw [← hN]; exact hm0.2.2.2
        rw [hXl] at ex gx3
        rw [hYl] at ey gy3
        cases ex
        cases ey
        have SX := sl_of_rc X'
        have SY := sl_of_rc Y'
        refine ⟨⟨gx, 0, none⟩, ⟨gy, 0, none⟩, c1, c2, T, cT, A2, co2, us, bs, ?_, ⟨hm0, by rw [hN]; exact gx3, gx4, by rw [hN]; exact gy3, gy4, ?_, ?_⟩, ?_, ?_, ?_, q.h2, ?_, ?_, ?_, ?_, ?_, ?_, ⟨?_, ?_⟩, q.up.kp KK (by simp)⟩
        · rw [HN'.out, HOL.out]
          unfold hpc
          rw [hN]
        · obtain ⟨p, ep, hp⟩ := (SX.rd.2 (by rw [← hXl]; have := hm0.1; have := hm0.2.2.1; omega))
          cases ep
          exact hp
        · obtain ⟨p, ep, hp⟩ := (SY.rd.2 (by have := hm0.1; have := hm0.2.2.2; omega))
          cases ep
          exact hp
        · rw [HN'.out]
          exact q.t.kp KK (by simp; omega)
        · rw [HN'.out]; exact HL.out.n.trans HUL.out
        · rw [HN'.out]; exact q.h1
        · have := q.h3; omega
        · rw [HL.out.b0]; exact hTl
        · rw [HOL.out, HL.out.b0]
          exact ((HQ.out.o.kp HL.out.k (fun g _ h0 _ _ => by simp; omega)).kp KK (fun g _ h0 _ _ => by have := q.h3; simp; omega)).mono (by have := q.h3; omega) (Nat.le_refl _)
        · intro j u t hu ht
          have hj : j < n := by
            rcases Nat.lt_or_ge j n with q | q
            · exact q
            · rw [List.getElem?_eq_none (by rw [HN'.out]; exact q)] at ht; cases ht
          exact (HL.out.new j u t hj hu ht).kp KK (fun g hg => by have := HL.out.low j (by omega); have := q.h3; simp only [List.mem_singleton] at hg; omega)
        · rw [HN'.out]; exact HL.out.mono
        · rw [HN'.out]; exact Nat.le_trans HL.out.bx KK.size
        · show gx ≠ T; omega
        · show gy ≠ T; omega
end Go.Proofs.YtddoljfkbkbfjaaGreat.T
