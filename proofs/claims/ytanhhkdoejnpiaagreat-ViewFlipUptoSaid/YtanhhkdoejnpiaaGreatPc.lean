/- The document's Put (dovecoteref16.Put): contract. -/
import Derived.Test.YtanhhkdoejnpiaaGreatPb
namespace Go.Proofs.YtanhhkdoejnpiaaGreat.G
open Go.Joins Go.ChangeShapes Go.WideShapes Go.ChangeAt Go.RowKit Go.Deep Go.Shelf Go.Maps
set_option linter.unusedVariables false
set_option linter.unusedSimpArgs false

set_option maxRecDepth 100000 in
set_option maxHeartbeats 16000000 in
theorem rput_go (v : Value) (g : Gr) (W : Nat) (s : Int) (w : World) (hg : GrV w v g) (hR : Rg g) (h16 : 16 ≤ W) (hW : W ≤ 4096) (hs : s = 0 ∨ s = 1) (hL : g.2.flatten.length + g.2.length ≤ 1048576) (hn9 : g.1.length ≤ 1000) :
    Calls Tryz.prog 14 #[v, .int .i64 W, .int .i64 s] w (PutR (decide (tot g.1 ≤ W)) g W s w) := by
  obtain ⟨ob, hob⟩ : ∃ ob, decide (tot g.1 ≤ W) = ob := ⟨_, rfl⟩
  rw [hob]
  have HOB := Lib.hid hob
  clear hob
  obtain ⟨A, c, B, d, rfl, m1, m2⟩ := hg.form
  have HG := Lib.hid hg
  obtain ⟨va, vb, e, ⟨us0, hns⟩, hrw⟩ := hg
  simp only [Value.agg.injEq, Array.mk.injEq, List.cons.injEq, and_true] at e
  obtain ⟨rfl, rfl⟩ := e
  have HNS := Lib.hid hns
  have HRW := Lib.hid hrw
  have HR := Lib.hid hR
  have HS := Lib.hid hs
  have HN := Lib.hid (fun V => rnew_ok W h16 hW V)
  have HND := Lib.hid (fun k (h : k < g.1.length) => hR.ndhd h)
  have HNA : Hid (∀ x, x < g.1.length → ∃ p Af cf, A = some p ∧ ∀ W', Up w W' → p.block < W'.heap.size ∧ NdAt W' (p.add (x * 4)) (g.1.getD x ndN) (.slice Af (g.1.getD x ndN).2.length cf) ∧ Sl .u64 W' (.slice Af (g.1.getD x ndN).2.length cf) (g.1.getD x ndN).2) := Lib.hid (fun x hx => by
    obtain ⟨p, u, e, -, h1, h2⟩ := hns.at_ hx
    obtain ⟨Af, cf, rfl⟩ := h2.slice
    have hl := lt_of_cell h1.1
    rw [block_of_add] at hl
    exact ⟨p, Af, cf, e, fun W' k => ⟨k.lt hl, ⟨k.cell h1.1, k.cell h1.2.1, k.cell h1.2.2.1, k.cell h1.2.2.2⟩, h2.up k⟩⟩)
  have hsp : (s != 0 && s != 1) = false := by rcases hs with rfl | rfl <;> rfl
  have HSB : Hid ((s != 0) = false ∨ ((s != 0) = true ∧ (s != 1) = false)) := Lib.hid (by rcases hs with rfl | rfl <;> simp)
  have H16 := Lib.hid h16
  have HLL := Lib.hid hL
  have HN9 := Lib.hid hn9
  clear hns hrw hR hs hL hn9
  have main : ∀ hq : (s != 0) = false ∨ ((s != 0) = true ∧ (s != 1) = false), Calls Tryz.prog 14 #[.agg #[.slice A g.1.length c, .slice B g.2.length d], .int .i64 W, .int .i64 s] w (PutR ob g W s w) := by
    intro hq
    have he : Hid (bnd (W : Int) = 0) := Lib.hid (by unfold bnd; split; omega; split; omega; rfl)
    go_enter Tryz.func14, Tryz.ntmps14
    go_wp2_with (fail)
    refine (HN.out _).mono ?_
    rintro e w1 ⟨P, Q, cp, cq, rfl, hs1, k1⟩
    have bR := (Blk.new' (w.alloc (.cells #[.slice A g.1.length c, .slice B g.2.length d] 30)) (g := w.heap.size + 1) (by simp) 25 mcz).up k1
    have bG := ((Blk.new w 30 #[.slice A g.1.length c, .slice B g.2.length d]).alloc (.cells mcz 25)).up k1
    have K1 := (((Up.refl w).alloc (.cells #[.slice A g.1.length c, .slice B g.2.length d] 30)).alloc (.cells mcz 25)).trans k1
    have hpb : Pb w (.slice A g.1.length c) (.slice B g.2.length d) w1 := ⟨bG, bR, K1⟩
    have R1l := bR.lt
    have HPB := Lib.hid hpb
    have HS1 := Lib.hid hs1
    clear k1 bR bG K1 hpb hs1
    go_upto_region 4 with fail
    generalize hW9 : w1.alloc (.cells (mec W P Q cp cq) 25) = w9 at *
    go_cut [38] from 33 to 38 (fun b wx => b = .bool false ∧ wx = w9)
    case first =>
      rcases hq with hq | ⟨hq, hq2⟩
      · go_wp2_with (fail)
        go_meet
        exact ⟨rfl, rfl⟩
      · go_wp2_with (fail)
        go_meet
        exact ⟨rfl, rfl⟩
    case rest =>
      obtain ⟨rfl, rfl⟩ := hcut
      subst hW9
      clear hq
      go_wp2_with (fail)
      have k2 : Up w1 ((w1.alloc (.cells (mec W P Q cp cq) 25)).alloc (.cells #[.int .u64 0] 67)) := ((Up.refl w1).alloc _).alloc _
      have hst1 : P1_ g w (.slice A g.1.length c) (.slice B g.2.length d) s W w1.heap.size (.slice (some ⟨w1.heap.size + 1, 0, none⟩) 1 1) (.int .i64 ((ofs g.1 0 : Nat) : Int)) (.int .i64 ((0 : Nat) : Int)) ((w1.alloc (.cells (mec W P Q cp cq) 25)).alloc (.cells #[.int .u64 0] 67)) := by
        have r1 := HS1.out.2.2.2.2.2.1.1
        have r2 := HS1.out.2.2.2.2.2.2.1
        refine ⟨0, w1.heap.size + 1, 1, Nat.zero_le _, rfl, rfl, by rw [ofs_0]; omega, rfl, own_one (Blk.new' _ (by simp) _ _) (by have := HPB.out.up.size; omega), ⟨P, Q, cp, cq, ?_, ?_, by omega, by omega⟩, ?_, HPB.out.upw k2⟩
        · exact (Blk.new w1 _ _).alloc _
        · rw [rowZ_0, mk_new]; exact HS1.out.up k2
        · rw [rowZ_0, mk_new]; exact ⟨fun x hx => by rw [List.eq_of_mem_replicate hx]; exact u64_0, fun x hx => by rw [List.eq_of_mem_replicate hx]; exact u64_0⟩
      rw [ofs_0] at hst1
      have HST1 := Lib.hid hst1
      have hB9 : w.heap.size + 1 < w1.heap.size := R1l
      clear hst1 k2 HS1 HPB
      generalize w1.heap.size = B9 at *
      go_loopw [11, 12, 13] (fun u11 u12 i wr => P1_ g w (.slice A g.1.length c) (.slice B g.2.length d) s W B9 u11 u12 i wr) (fun _ _ i _ => g.1.length - (intOf i).toNat)
      case atStart => exact HST1.out
      case round =>
        rename World => wr
        obtain ⟨x, gb, cap, hx, rfl, rfl, hof, rfl, ho, ⟨P, Q, cp, cq, bB, sB, hfr⟩, hwf, hpb⟩ := hrel
        have qG := hpb.bG.cell
        have lG := hpb.bG.lt
        by_cases hlt : x < g.1.length
        · obtain ⟨p, Af, cf, e1, hat⟩ := HNA.out x hlt
          subst e1
          have hnh := HND.out x hlt
          have hst := ofs_step hlt
          obtain ⟨z0, ⟨z1, z2, z3, z4⟩, z5⟩ := hat wr hpb.up
          have HAT := Lib.hid (fun W' (k : Up wr W') => hat W' (hpb.up.trans k))
          have HLZ := Lib.hid hlt
          obtain ⟨ln, hln⟩ : ∃ ln, (g.1.getD x ndN).2.length = ln := ⟨_, rfl⟩
          obtain ⟨t, ht⟩ : ∃ t, (g.1.getD x ndN).1.1 = t := ⟨_, rfl⟩
          obtain ⟨l, hl⟩ : ∃ l, (g.1.getD x ndN).1.2.1 = l := ⟨_, rfl⟩
          obtain ⟨mp, hmp⟩ : ∃ mp, (g.1.getD x ndN).1.2.2 = mp := ⟨_, rfl⟩
          have hdk := hnh.h
          have hll := hnh.l
          rw [ht, hl, hmp] at hdk
          rw [hln, hl] at hll
          rw [hln] at hst
          obtain ⟨l0, l1, l2, l3⟩ := hdk.len
          have HWD := Lib.hid (fun V => by
            have h := rhwords_any t l mp hdk.m hdk.r V
            rw [l3] at h
            exact h)
          have HNH := Lib.hid hnh
          have HPB := Lib.hid hpb
          have HSB2 := Lib.hid sB
          have HBB := Lib.hid bB
          have HWF := Lib.hid hwf
          have HO := Lib.hid ho
          have HHD := Lib.hid (show (g.1.getD x ndN).1.1 = t ∧ (g.1.getD x ndN).1.2.1 = l ∧ (g.1.getD x ndN).1.2.2 = mp from ⟨ht, hl, hmp⟩)
          have HST := Lib.hid hst
          rw [ht] at z1
          rw [hl] at z2
          rw [hmp] at z3
          rw [hln] at z4
          clear z5 hat hdk hnh hpb sB bB hwf ho hln ht hl hmp
          go_wp2_with (fail)
          refine (HWD.out _).mono ?_
          rintro e w4 ⟨rfl, k4⟩
          have hpb4 := HPB.out.upw k4
          have qG4 := hpb4.bG.cell
          have lG4 := hpb4.bG.lt
          by_cases hfull : W < ofs g.1 (x + 1)
          · have hdf : decide (l + 2 > (W : Int) - (ofs g.1 x : Nat)) = true := decide_eq_true (by have := HST.out; omega)
            have hob : ob = false := by
              rw [← HOB.out]
              exact decide_eq_false (fun q => by have := ofs_tot (ns := g.1) (show x + 1 ≤ g.1.length by have := HLZ.out; omega); omega)
            subst hob
            have R1c := hpb4.bR.cell
            have R1f := hpb4.bR.frozen
            have R1l := hpb4.bR.lt
            have HUP := Lib.hid hpb4.up
            clear hpb4 qG lG z0 z1 z2 z3 z4 k4
            go_wp2_with (fail)
            refine bodyPost_ret (v := .tuple #[mem0, .slice none 0 0, .int .i64 4]) (by simp [results, Tryz.results14, go_sem, R1c, R1l, R1f, Nat.ne_of_lt R1l]) rfl ?_
            unfold PutR
            rw [if_neg (by decide)]
            exact ⟨rfl, HUP.out.set3 (by omega) _ _ _⟩
          · have hdf : decide (l + 2 > (W : Int) - (ofs g.1 x : Nat)) = false := decide_eq_false (by have := HST.out; omega)
            have hf' : ofs g.1 (x + 1) ≤ W := by omega
            have HAD := Lib.hid (fun V => raddr_ok s (ofs g.1 x) HS.out (by omega) (by omega) V)
            have HPT := Lib.hid (fun V (k : Up wr V) => by
              obtain ⟨q1, q2, q3⟩ := HHD.out
              have h := rput_let P Q cp cq V (HSB2.out.up k) HLZ.out HNH.out HS.out H16.out hW hf'
              rw [q1, q2, q3] at h
              exact h)
            have HWF2 : Hid ((mk W s (rowZ g.1 W (x + 1))).wf) := Lib.hid (by
              obtain ⟨q1, q2, q3⟩ := HHD.out
              rw [← (putZ HLZ.out HNH.out HS.out H16.out hW hf').1]
              exact put_wf HNH.out.h.m HWF.out)
            have HP1 := Lib.hid (fun V P5 Q5 c5 d5 (k : Up wr V) (s5 : Sits V (mk W s (rowZ g.1 W (x + 1))) P5 Q5 c5 d5) (o5 : NewO wr.heap.size P Q P5 Q5) => p1_step HLZ.out HN9.out hB9 HO.out HBB.out hfr HPB.out k s5 o5 HWF2.out hf')
            have HK4 := Lib.hid k4
            have HAT4 := Lib.hid (fun W' (k : Up w4 W') => HAT.out W' (k4.trans k))
            obtain ⟨y0, ⟨y1, y2, y3, y4⟩, -⟩ := HAT4.out w4 (Up.refl _)
            obtain ⟨q1, q2, q3⟩ := HHD.out
            rw [q1] at y1
            rw [q2] at y2
            rw [q3] at y3
            have bB4 := HBB.out.up k4
            have hBc := bB4.cell
            have hBl := bB4.lt
            have HPB4 := Lib.hid hpb4
            clear hpb4 qG lG z0 z1 z2 z3 z4 k4 bB4 q1 q2 q3
            go_wp2_with (fail)
            refine (HAD.out _).mono ?_
            rintro e w4' ⟨rfl, rfl⟩
            go_wp2_with (fail)
            --S<
            go_region_with (go_at_call 46; (with_reducible refine (HPT.out _ (HK4.out.trans (Up.refl w4).drew)).mono ?_); rintro e w5 ⟨P5, Q5, c5, d5, rfl, s5, k5, o5⟩; have bB5 := HBB.out.up ((HK4.out.drew).trans k5); have hBc5 := bB5.cell; have hBf5 := bB5.frozen; have hBl5 := bB5.lt)
            all_goals
              obtain ⟨g2, cap2, wz, hrun, hnx⟩ := HP1.out w5 P5 Q5 c5 d5 ((HK4.out.drew).trans k5) s5 (o5.le HK4.out.size)
              have HNX := Lib.hid hnx
              have hst := HST.out
              clear hnx hBc hBl hBc5 hBf5 hBl5 bB5 y0 y1 y2 y3 y4 qG4 lG4 s5 k5 o5
              go_wp2_with (at_builtin; refine Lib.wpList_append_run _ rfl _ _ _ _ rfl _ _ rfl rfl _ _ hrun ?_)
              obtain ⟨x', g', c', h1, h2, h3, h4⟩ := HNX.out
              refine ⟨⟨x', g', c', h1, ?_, ?_, h4⟩, by simp [intOf]; omega⟩
              · rw [← h2]; go_num
              · rw [← h3]; go_num
            --S>
        · obtain rfl : x = g.1.length := by omega
          have hob : ob = true := by
            rw [← HOB.out]
            exact decide_eq_true (by rw [← ofs_all]; exact hof)
          subst hob
          obtain ⟨pa, hpa⟩ : ∃ pa, (⟨gb, 0, none⟩ : Addr) = pa := ⟨_, rfl⟩
          have HST2 : Hid (P2_ g w (.slice A g.1.length c) (.slice B g.2.length d) s W B9 (.slice (some pa) (g.1.length + 1) cap) (.int .i64 ((0 : Nat) : Int)) wr) := Lib.hid ⟨0, Nat.zero_le _, rfl, by rw [← hpa]; exact ho, by rw [← rowR_0]; exact ⟨P, Q, cp, cq, bB, sB⟩, by rw [← rowR_0]; exact hwf, hpb⟩
          have HAC : Hid (∀ V, OwnA s g w g.1.length (.slice (some pa) (g.1.length + 1) cap) V → ∀ k : Nat, k < g.1.length + 1 → V.cell? (pa.add k) = some (.int .u64 ((adl s g.1 g.1.length).getD k 0)) ∧ pa.block < V.heap.size) := Lib.hid (fun V h k hk => by
            obtain ⟨p, e, hc⟩ := (sl_own h (adl_len _ _ _)).at_ hk
            cases e
            have hl := lt_of_cell hc
            rw [block_of_add] at hl
            exact ⟨hc, hl⟩)
          clear ho bB sB hfr hwf hpb HST1
          rw [hpa]
          clear hpa
          go_wp2_with (fail)
          go_loopw [16] (fun i wr => P2_ g w (.slice A g.1.length c) (.slice B g.2.length d) s W B9 (.slice (some pa) (g.1.length + 1) cap) i wr) (fun i _ => g.1.length - (intOf i).toNat)
          case atStart => exact HST2.out
          case round =>
            rename World => wo
            obtain ⟨x, hx, rfl, ho, ⟨P, Q, cp, cq, bB, sB⟩, hwf, hpb⟩ := hrel
            have qG := hpb.bG.cell
            have lG := hpb.bG.lt
            by_cases hlt : x < g.1.length
            · obtain ⟨p, Af, cf, e1, hat⟩ := HNA.out x hlt
              subst e1
              have hnh := HND.out x hlt
              have HLT := Lib.hid hlt
              have HST3 : Hid (P3_ g w (.slice (some p) g.1.length c) (.slice B g.2.length d) s W B9 x (.slice (some pa) (g.1.length + 1) cap) (.int .i64 ((0 : Nat) : Int)) wo) := Lib.hid ⟨0, Nat.zero_le _, rfl, ho, by rw [← rowR_S hlt]; exact ⟨P, Q, cp, cq, bB, sB⟩, by rw [← rowR_S hlt]; exact hwf, hpb⟩
              have HMEM : Hid (g.1.getD x ndN ∈ g.1) := Lib.hid (getD_mem ndN hlt)
              have hdk := hnh.h
              have hll := hnh.l
              obtain ⟨nd, hnd⟩ : ∃ nd, g.1.getD x ndN = nd := ⟨_, rfl⟩
              have HND2 := Lib.hid hnd
              rw [hnd] at hat HMEM hdk hll
              obtain ⟨ln, hln⟩ : ∃ ln, nd.2.length = ln := ⟨_, rfl⟩
              obtain ⟨t, ht⟩ : ∃ t, nd.1.1 = t := ⟨_, rfl⟩
              obtain ⟨l, hl⟩ : ∃ l, nd.1.2.1 = l := ⟨_, rfl⟩
              obtain ⟨mp, hmp⟩ : ∃ mp, nd.1.2.2 = mp := ⟨_, rfl⟩
              rw [ht, hl, hmp] at hdk
              rw [hln, hl] at hll
              obtain ⟨l0, l1, l2, l3⟩ := hdk.len
              have HAT := Lib.hid hat
              have HHD := Lib.hid (show nd.1.1 = t ∧ nd.1.2.1 = l ∧ nd.1.2.2 = mp ∧ nd.2.length = ln from ⟨ht, hl, hmp, hln⟩)
              have HPT := Lib.hid (fun (z : Int) V => rptr_any t l mp z hdk.m (by omega) (by omega) V)
              have HNH := Lib.hid hnh
              have HOF : Hid (ofs g.1 (x + 1) ≤ W) := Lib.hid (Nat.le_trans (ofs_tot hlt) (by rw [← ofs_all]; exact hof))
              obtain ⟨z0, ⟨z1, z2, z3, z4⟩, z5⟩ := hat wo hpb.up
              rw [ht] at z1
              rw [hl] at z2
              rw [hmp] at z3
              rw [hln] at z4
              clear hat hnh hdk hnd ht hl hmp hln z5 ho bB sB hwf hpb
              go_wp2_with (fail)
              go_loopw [17] (fun i wr => P3_ g w (.slice (some p) g.1.length c) (.slice B g.2.length d) s W B9 x (.slice (some pa) (g.1.length + 1) cap) i wr) (fun i _ => ln - (intOf i).toNat)
              case atStart => exact HST3.out
              case round =>
                rename World => wr
                obtain ⟨z, hz, rfl, ho, ⟨P, Q, cp, cq, bB, sB⟩, hwf, hpb⟩ := hrel
                have hz2 := hz
                rw [HND2.out, HHD.out.2.2.2] at hz2
                have qG := hpb.bG.cell
                have lG := hpb.bG.lt
                obtain ⟨q1, q2, q3, q4⟩ := HHD.out
                obtain ⟨y0, ⟨y1, y2, y3, y4⟩, y5⟩ := HAT.out wr hpb.up
                rw [q1] at y1
                rw [q2] at y2
                rw [q3] at y3
                rw [q4] at y4 y5
                by_cases hlz : z < ln
                · obtain ⟨pe, rfl, hce⟩ := y5.at_ hlz
                  have hle := lt_of_cell hce
                  rw [block_of_add] at hle
                  have hzl : z < nd.2.length := by rw [q4]; exact hlz
                  have hmp := mp_at (Adr s g.1) nd hzl
                  have hfu := HR.out.fu nd HMEM.out _ (getD_mem 0 hzl)
                  have hpt := HR.out.pt nd HMEM.out z hzl
                  unfold isP at hmp hpt
                  rw [q2, q3] at hmp hpt
                  obtain ⟨v0, hv0⟩ : ∃ v0, nd.2.getD z 0 = v0 := ⟨_, rfl⟩
                  rw [hv0] at hmp hfu hpt hce
                  have hptr := HPT.out z wr
                  obtain ⟨b, hb⟩ : ∃ b, ptb l mp z = b := ⟨_, rfl⟩
                  rw [hb] at hmp hpt hptr
                  have HPTR := Lib.hid hptr
                  have HO := Lib.hid ho
                  have HBB := Lib.hid bB
                  have HPB := Lib.hid hpb
                  have HSS := Lib.hid sB
                  have HSET := Lib.hid (fun vv (hv : (mpF (Adr s g.1) nd).2.getD z 0 = vv) V (k : Up wr V) => by
                    have h := rset_let P Q cp cq V (HSS.out.up k) hwf HLT.out HNH.out HS.out hW HOF.out (i := z) (by rw [HND2.out]; exact hzl)
                    rw [HND2.out, hv] at h
                    exact h)
                  have HWF : Hid ((mk W s (rowS (Adr s g.1) g.1 W x (z + 1))).wf) := Lib.hid (by
                    rw [← setS HLT.out HNH.out HS.out hW HOF.out (by rw [HND2.out]; exact hzl), HND2.out]
                    unfold Me.setm
                    split
                    · refine hwf.st ?_ _
                      rw [hmp]
                      split
                      · exact Adr_u64 HS.out (Nat.le_trans (by rw [← ofs_all]; exact hof) hW)
                      · exact hfu
                    · exact hwf)
                  have HP3 := Lib.hid (fun V P5 Q5 c5 d5 (k : Up wr V) s5 => p3_step (z := z) (by rw [HND2.out]; exact hzl) hB9 HO.out HBB.out HPB.out (P5 := P5) (Q5 := Q5) (c5 := c5) (d5 := d5) k s5 HWF.out)
                  have hvs : IntKind.i64.wrap ((x : Int) + 1) = ((x + 1 : Nat) : Int) := by rw [IntKind.wrap_i64] <;> omega
                  have HX1 := Lib.hid (adl_get s g.1 hlt)
                  have hx01 : (0 : Int) ≤ (x : Int) + 1 := by omega
                  clear ho bB sB hpb q1 q2 q3 q4 y5 hb hptr hzl hv0
                  --S<
                  cases b with
                  | true =>
                    have hvn := hpt rfl
                    rw [if_pos rfl] at hmp
                    obtain ⟨kv, rfl⟩ : ∃ kv : Nat, v0 = kv := ⟨v0.toNat, by have := hfu.1; omega⟩
                    have HS3 := Lib.hid (HSET.out _ hmp)
                    have hkv : kv < g.1.length + 1 := by omega
                    have HAV : Hid ((adl s g.1 g.1.length).getD kv 0 = Adr s g.1 kv) := Lib.hid (by
                      have := adl_at s g.1 (h := (kv : Int)) (by omega) hvn
                      simpa using this)
                    clear hmp hpt hfu HSET hvn
                    go_wp2_with (fail)
                    refine (HPTR.out).mono ?_
                    rintro e w6 ⟨rfl, k6⟩
                    obtain ⟨hc1, hl1⟩ := HAC.out w6 (own_up HO.out k6) kv hkv
                    obtain ⟨hc2, hl2⟩ := HAC.out w6 (own_up HO.out k6) (x + 1) (by omega)
                    rw [HAV.out] at hc1
                    rw [HX1.out, show pa.add (x + 1) = ⟨pa.block, pa.off + (x + 1), none⟩ from by simp [Addr.add]] at hc2
                    have HK6 := Lib.hid k6
                    have bB6 := HBB.out.up k6
                    have hBc := bB6.cell
                    have hBl := bB6.lt
                    clear bB6 k6 hce hle y0 y1 y2 y3 y4 qG lG
                    go_wp2_with (fail)
                    go_region_with (go_at_call 48; (with_reducible refine (HS3.out _ (HK6.out.trans (Up.refl w6).drew)).mono ?_); rintro e w5 ⟨P5, Q5, c5, d5, xx, rfl, s5, k5⟩; have bB5 := HBB.out.up ((HK6.out.drew).trans k5); have hBc5 := bB5.cell; have hBf5 := bB5.frozen; have hBl5 := bB5.lt)
                    all_goals
                      have HNX := Lib.hid (HP3.out w5 P5 Q5 c5 d5 ((HK6.out.drew).trans k5) s5)
                      clear hBc hBl hBc5 hBf5 hBl5 bB5 hc1 hl1 hc2 hl2 s5 k5
                      go_wp2
                      exact ⟨HNX.out, by simp [intOf]; omega⟩
                  | false =>
                    rw [if_neg (by decide)] at hmp
                    have HS3 := Lib.hid (HSET.out _ hmp)
                    clear hmp hpt hfu HSET
                    go_wp2_with (fail)
                    refine (HPTR.out).mono ?_
                    rintro e w6 ⟨rfl, k6⟩
                    obtain ⟨hc2, hl2⟩ := HAC.out w6 (own_up HO.out k6) (x + 1) (by omega)
                    rw [HX1.out, show pa.add (x + 1) = ⟨pa.block, pa.off + (x + 1), none⟩ from by simp [Addr.add]] at hc2
                    have HK6 := Lib.hid k6
                    have bB6 := HBB.out.up k6
                    have hBc := bB6.cell
                    have hBl := bB6.lt
                    clear bB6 k6 hce hle y0 y1 y2 y3 y4 qG lG
                    go_wp2_with (fail)
                    go_region_with (go_at_call 48; (with_reducible refine (HS3.out _ (HK6.out.trans (Up.refl w6).drew)).mono ?_); rintro e w5 ⟨P5, Q5, c5, d5, xx, rfl, s5, k5⟩; have bB5 := HBB.out.up ((HK6.out.drew).trans k5); have hBc5 := bB5.cell; have hBf5 := bB5.frozen; have hBl5 := bB5.lt)
                    all_goals
                      have HNX := Lib.hid (HP3.out w5 P5 Q5 c5 d5 ((HK6.out.drew).trans k5) s5)
                      clear hBc hBl hBc5 hBf5 hBl5 bB5 hc2 hl2 s5 k5
                      go_wp2
                      exact ⟨HNX.out, by simp [intOf]; omega⟩
                  --S>
                · obtain rfl : z = ln := by omega
                  have HNX : Hid (P2_ g w (.slice (some p) g.1.length c) (.slice B g.2.length d) s W B9 (.slice (some pa) (g.1.length + 1) cap) (.int .i64 ((x + 1 : Nat) : Int)) wr) := Lib.hid ⟨x + 1, by omega, rfl, ho, by
                    rw [← rowS_end hlt, HND2.out, q4]
                    exact ⟨P, Q, cp, cq, bB, sB⟩, by
                    rw [← rowS_end hlt, HND2.out, q4]
                    exact hwf, hpb⟩
                  clear ho bB sB hwf hpb y5
                  go_wp2
                  exact ⟨HNX.out, by simp [intOf]; omega⟩
            · obtain rfl : x = g.1.length := by omega
              have hOA := Lib.hid ho
              rw [rowR_all] at sB hwf
              have HBB := Lib.hid bB
              have HSB := Lib.hid sB
              have HWF := Lib.hid hwf
              have HPB := Lib.hid hpb
              clear ho bB sB hwf hpb HST2
              go_wp2_with (fail)
              go_loopw [20, 21] (fun u i wr => R4_ (Adr s g.1) g.2 wo u i wr) (fun _ i _ => g.2.length - (intOf i).toNat)
              case atStart => exact ⟨0, [], Nat.zero_le _, rfl, RwI.nil _ _ _⟩
              case round =>
                rename World => wr
                obtain ⟨j, us2, hj, rfl, hS⟩ := hrel
                have hpb := HPB.out.upw hS.up
                have qG := hpb.bG.cell
                have lG := hpb.bG.lt
                by_cases hlt : j < g.2.length
                · obtain ⟨p, u2, rfl, hcu, hsu⟩ := (HRW.out.up hpb.up).at_ hlt
                  obtain ⟨Ar, cr, rfl⟩ := hsu.slice
                  have hlp := lt_of_cell hcu
                  rw [block_of_add] at hlp
                  have HSU := Lib.hid (fun V (k : Up wr V) => hsu.up k)
                  have HCU := Lib.hid (fun V (k : Up wr V) => k.cell hcu)
                  have HSI := Lib.hid hS
                  have hls : (g.2.getD j []).length ≤ 1048576 := by
                    have h2 := jflat_le g.2 (j + 1)
                    rw [jflat_take hlt, List.length_append] at h2
                    have := HLL.out
                    omega
                  have HHN : Hid (∀ x, x < (g.2.getD j []).length → 0 ≤ (g.2.getD j []).getD x 0 ∧ (g.2.getD j []).getD x 0 ≤ g.1.length) := Lib.hid (fun x hx => HR.out.hn _ (getD_mem [] hlt) _ (getD_mem 0 hx))
                  have hpbH := Lib.hid hpb
                  obtain ⟨row, hrow⟩ : ∃ row, g.2.getD j [] = row := ⟨_, rfl⟩
                  rw [hrow] at HSU HCU hcu hls HHN
                  have HRO := Lib.hid hrow
                  have hjl : j ≤ 1048576 := by have := HLL.out; omega
                  clear hrow hS hsu hpb
                  obtain ⟨ln, hln⟩ : ∃ ln, row.length = ln := ⟨_, rfl⟩
                  rw [hln] at HSU HCU hcu hls HHN
                  have HLN := Lib.hid hln
                  clear hln
                  go_wp2_with (fail)
                  go_loopw [22, 23] (fun u i w5 => RwR (Adr s g.1) row wr u i w5) (fun _ i _ => ln - (intOf i).toNat)
                  case atStart => exact ⟨0, Nat.zero_le _, rfl, World.ownsRow_nil _ _ _ _, Up.refl _⟩
                  case round =>
                    rename World => w5
                    obtain ⟨x, hx, rfl, hu, U⟩ := hrel
                    rw [HLN.out] at hx
                    have hpb5 := hpbH.out.upw U
                    have qG5 := hpb5.bG.cell
                    have lG5 := hpb5.bG.lt
                    have hc5 := HCU.out w5 U
                    have hlp5 := U.lt hlp
                    obtain ⟨Au, cu, rfl⟩ := own_slice hu
                    by_cases hlx : x < ln
                    · obtain ⟨pe, rfl, hce⟩ := (HSU.out w5 U).at_ hlx
                      have hle := lt_of_cell hce
                      rw [block_of_add] at hle
                      have hhn := HHN.out x hlx
                      have HTK := Lib.hid (take_snoc' (xs := row) (x := x) (by rw [HLN.out]; exact hlx))
                      obtain ⟨h, hh⟩ : ∃ h, row.getD x 0 = h := ⟨_, rfl⟩
                      rw [hh] at hce hhn HTK
                      obtain ⟨kh, rfl⟩ : ∃ kh : Nat, h = kh := ⟨h.toNat, by omega⟩
                      obtain ⟨hc1, hl1⟩ := HAC.out w5 (own_up hOA.out (HSI.out.up.trans U)) kh (by omega)
                      have hav : (adl s g.1 g.1.length).getD kh 0 = Adr s g.1 kh := by
                        have := adl_at s g.1 (h := (kh : Int)) (by omega) hhn.2
                        simpa using this
                      rw [hav] at hc1
                      have hkl : kh < g.1.length + 1 := by omega
                      have kx : Up w5 (w5.alloc (.cells #[.int .u64 (Adr s g.1 kh)] 67)) := (Up.refl w5).alloc _
                      obtain ⟨v2, wb, hrun2, hob, hgb, -⟩ := run_any el_u64 (w := w5.alloc (.cells #[.int .u64 (Adr s g.1 kh)] 67)) 22 wr.heap.size x (.slice Au x cu) _ (own_up hu kx) (some ⟨w5.heap.size, 0, none⟩) 1 1 [.int .u64 (Adr s g.1 kh)] rfl (rv_of_blk (Blk.new w5 _ _) (fun i u hi => by simpa using hi)) (fun u hu => by rw [List.mem_singleton] at hu; subst hu; rfl) (by omega) (Nat.le_trans U.size kx.size)
                      obtain ⟨A2, c2, rfl⟩ := own_slice hob
                      have HS9 : Hid (RwR (Adr s g.1) row wr (.slice A2 (x + 1) c2) (.int .i64 ((x + 1 : Nat) : Int)) wb) := Lib.hid ⟨x + 1, by rw [HLN.out]; omega, rfl, by
                        rw [HTK.out, List.map_append, List.map_append]
                        exact hob, up_own (U.trans kx) (own_up hu kx) hgb⟩
                      clear hob hgb kx hu U hh hav hhn hpb5
                      go_wp2_with (at_builtin; refine Lib.wpList_append_run _ rfl _ _ _ _ rfl _ _ rfl rfl _ _ hrun2 ?_)
                      exact ⟨by have := HS9.out; push_cast at this; exact this, by simp [intOf]; omega⟩
                    · obtain rfl : x = ln := by omega
                      rw [List.take_of_length_le (by rw [HLN.out]; exact Nat.le_refl _)] at hu
                      obtain ⟨vs, hvs⟩ : ∃ vs : Value, vs = vs := ⟨.slice none 0 0, rfl⟩
                      have kx : Up w5 (w5.alloc (.cells #[.slice Au x cu] 22)) := (Up.refl w5).alloc _
                      have hS5 := HSI.out.upw (U.trans kx)
                      obtain ⟨v2, wb, hrun2, ho2, hgb, -⟩ := run_any el_rows (w := w5.alloc (.cells #[.slice Au x cu] 22)) 26 wo.heap.size j _ _ hS5.own (some ⟨w5.heap.size, 0, none⟩) 1 1 [.slice Au x cu] rfl (rv_of_blk (Blk.new w5 _ _) (fun i u hi => by simpa using hi)) (fun u hu => by rw [List.mem_singleton] at hu; subst hu; rfl) (by omega) hS5.up.size
                      obtain ⟨A2, c2, rfl⟩ := own_slice ho2
                      have HS6 : Hid (RwI (Adr s g.1) g.2 wo (j + 1) (.slice A2 (j + 1) c2) (us2 ++ [.slice Au x cu]) wb) := Lib.hid (HSI.out.fin (U.trans kx) hlt HRO.out (by rw [HLN.out]; exact own_up hu kx) ho2 hgb)
                      clear hu kx hS5 ho2 hgb U hpb5
                      go_wp2_with (at_builtin; refine Lib.wpList_append_run _ rfl _ _ _ _ rfl _ _ rfl rfl _ _ hrun2 ?_)
                      exact ⟨⟨j + 1, _, by omega, by go_num, HS6.out⟩, by simp [intOf]; omega⟩
                · obtain rfl : j = g.2.length := by omega
                  have HRWF := Lib.hid (fun V (k : ∀ b t cs, t ≠ 25 → Blk wr b t cs → Blk V b t cs) => hS.rwk rfl k)
                  obtain ⟨Ao, co, rfl⟩ := own_slice hS.own
                  have R1 := hpb.bR
                  have R1c := R1.cell
                  have R1f := R1.frozen
                  have R1l := R1.lt
                  have bB := HBB.out.up hS.up
                  have hBc := bB.cell
                  have hBl := bB.lt
                  have HSI := Lib.hid (HSB.out.up hS.up)
                  have HUP := Lib.hid hpb.up
                  clear hS hpb bB
                  go_wp2
                  refine bodyPost_ret (v := .tuple #[mev W P Q cp cq, .slice Ao g.2.length co, .int .i64 0]) (by simp [results, Tryz.results14, go_sem, R1c, R1l, R1f, Nat.ne_of_lt R1l]) rfl ?_
                  unfold PutR
                  rw [if_pos rfl]
                  exact ⟨P, Q, cp, cq, Ao, co, rfl, HSI.out.far3 R1 _ _ _, HWF.out, HRWF.out _ (fun b t cs ht hb => hb.far3 (hb.ne_type R1 ht) _ _ _), HUP.out.set3 (by omega) _ _ _⟩
  exact main HSB.out
/-- What the document's Put answers. -/
def Put16 (g : Gr) (words space : Int) (w : World) (e : Ending) (w' : World) : Prop := if pte g words space = 0 then PutYes g words.toNat space w e w' else PutNo (pte g words space) w e w'
theorem rput16_any (v : Value) (g : Gr) (words space : Int) (w : World) (hg : GrV w v g) (hR : Rg g) (hL : g.2.flatten.length + g.2.length ≤ 1048576) (hn9 : g.1.length ≤ 1000) :
    Calls Tryz.prog 14 #[v, .int .i64 words, .int .i64 space] w (Put16 g words space w) := by
  by_cases h0 : bnd words = 0
  · obtain ⟨h16, hW⟩ := bnd_ok h0
    obtain ⟨W, rfl⟩ : ∃ W : Nat, words = W := ⟨words.toNat, by omega⟩
    have h16' : 16 ≤ W := by omega
    have hW' : W ≤ 4096 := by omega
    by_cases hs : space = 0 ∨ space = 1
    · have h := rput_go v g W space w hg hR h16' hW' hs hL hn9
      refine h.mono fun e w' hp => ?_
      unfold Put16
      unfold PutR at hp
      by_cases ht : tot g.1 ≤ W
      · have ep : pte g W space = 0 := by
          unfold pte
          rw [if_neg (by simp [h0]), if_neg (by omega), if_neg (by omega)]
        rw [if_pos (decide_eq_true ht)] at hp
        rw [if_pos ep]
        exact hp
      · have ep : pte g W space = 4 := by
          unfold pte
          rw [if_neg (by simp [h0]), if_neg (by omega), if_pos (by omega)]
        rw [if_neg (by simp [ht])] at hp
        rw [ep, if_neg (by decide)]
        exact hp
    · have h := rput_arg v g W space w hg h16' hW' (by omega) (by omega)
      refine h.mono fun e w' hp => ?_
      have ep : pte g W space = 1 := by
        unfold pte
        rw [if_neg (by simp [h0]), if_pos (by omega)]
      unfold Put16
      rw [ep, if_neg (by decide)]
      exact hp
  · have h := rput_bnd v g words space _ w hg (bnd_13 h0) rfl
    refine h.mono fun e w' hp => ?_
    have ep : pte g words space = bnd words := by
      unfold pte
      rw [if_pos h0]
    unfold Put16
    rw [ep, if_neg h0]
    exact hp
end Go.Proofs.YtanhhkdoejnpiaaGreat.G
