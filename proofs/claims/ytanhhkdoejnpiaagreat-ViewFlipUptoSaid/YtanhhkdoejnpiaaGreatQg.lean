/- view.Put: contract. -/
import Derived.Test.YtanhhkdoejnpiaaGreatQe
import Derived.Test.YtanhhkdoejnpiaaGreatQf
namespace Go.Proofs.YtanhhkdoejnpiaaGreat.G
open Go.Joins Go.ChangeShapes Go.WideShapes Go.ChangeAt Go.RowKit Go.Deep Go.Shelf Go.Maps
set_option linter.unusedVariables false
set_option linter.unusedSimpArgs false

theorem AdBox.ne {w : World} {B M k : Nat} {s : Int} {ns : List Nd} (h : AdBox w B M s ns k) {g : Nat} {t : TypeId} {cs : Array Value} (hb : Blk w g t cs) : M ≠ g := fun e => by
  obtain ⟨_, _, _, ⟨es, clock, hm, _⟩, _⟩ := h
  subst e
  unfold Blk at hb
  rw [hb] at hm
  cases hm
theorem AdBox.kp {w w' : World} {B M k : Nat} {s : Int} {ns : List Nd} {S : List Nat} (h : AdBox w B M s ns k) (u : Kp S w w') (hB : B ∉ S) (hM : M ∉ S) : AdBox w' B M s ns k := by
  obtain ⟨h1, n, D, h2, h3⟩ := h
  refine ⟨h1.kp u hB, n, D, ?_, h3⟩
  obtain ⟨es, clock, hb, r⟩ := h2
  exact ⟨es, clock, (u.block M (Array.getElem?_eq_some_iff.1 hb).1 hM).trans hb, r⟩
structure Mo (g : Gr) (w : World) (va vb : Value) (s : Int) (W B9 B M x : Nat) (wr : World) : Prop where
  bx : BxW W B9 (G.mk W s (rowP (Adr s g.1) g.1 W x)) wr
  wf : (G.mk W s (rowP (Adr s g.1) g.1 W x)).wf
  pb : Pb w va vb wr
  ad : AdBox wr B M s g.1 g.1.length
def MoR (g : Gr) (w : World) (va vb : Value) (s : Int) (W B9 B M : Nat) (i : Value) (wr : World) : Prop := ∃ x : Nat, x ≤ g.1.length ∧ i = .int .i64 x ∧ Mo g w va vb s W B9 B M x wr
theorem Mo.step {g : Gr} {w wr w5 : World} {va vb : Value} {s : Int} {W B9 B M x : Nat} {P Q P5 Q5 : Addr} {c d c5 d5 : Nat} (h : Mo g w va vb s W B9 B M x wr) (hB9 : w.heap.size + 1 < B9) (hB : B9 ≠ B) (bB : Blk wr B9 25 (mec W P Q c d)) (u : Up wr w5)
    (s5 : Sits w5 (G.mk W s (rowP (Adr s g.1) g.1 W (x + 1))) P5 Q5 c5 d5) (hwf : (G.mk W s (rowP (Adr s g.1) g.1 W (x + 1))).wf) :
    Mo g w va vb s W B9 B M (x + 1) (((w5.setCell ⟨B9, 0, none⟩ (.int .i64 W)).setCell ⟨B9, 1, none⟩ (.slice (some P5) W c5)).setCell ⟨B9, 2, none⟩ (.slice (some Q5) W d5)) := by
  have bB5 := bB.up u
  have a5 := h.ad.up u
  exact ⟨⟨P5, Q5, c5, d5, bB5.set3 _ _ _, s5.far3 bB5 _ _ _⟩, hwf, (h.pb.upw u).set3 hB9 _ _ _, a5.kp ((((Kp.refl [B9] w5).set_ (by simp) _).set_ (by simp) _).set_ (by simp) _) (by simpa using fun e => hB e.symm) (by simpa using a5.ne bB5)⟩
set_option maxRecDepth 100000 in
set_option maxHeartbeats 8000000 in
theorem mput_go (v : Value) (g : Gr) (W : Nat) (s : Int) (w : World) (hg : GrV w v g) (hR : Rg g) (h16 : 16 ≤ W) (hW : W ≤ 4096) (hs : s = 0 ∨ s = 1) (hL : g.2.length ≤ 1048576 ∧ ∀ row ∈ g.2, row.length ≤ 17592186044416) (hn9 : g.1.length ≤ 1000) (hT : tot g.1 ≤ W) :
    Calls Tryz.prog 13 #[v, .int .i64 W, .int .i64 s] w (PutYes g W s w) := by
  obtain ⟨A, c, B, d, rfl, m1, m2⟩ := hg.form
  have HG := Lib.hid hg
  obtain ⟨va, vb, e, ⟨us0, hns⟩, hrw⟩ := hg
  simp only [Value.agg.injEq, Array.mk.injEq, List.cons.injEq, and_true] at e
  obtain ⟨rfl, rfl⟩ := e
  have HRW := Lib.hid hrw
  have HN := Lib.hid (fun V => new_ok W h16 hW V)
  have HLD := Lib.hid (fun V (u : Up w V) => by
    have h := laid_any (.slice A g.1.length c) g.1 W s V (Ns.up ⟨us0, hns⟩ u) (fun k h => hR.ndhd h) hn9 (by unfold I64; omega)
    rw [show decide (g.1.length = 0 ∨ (tot g.1 : Int) ≤ W) = true from decide_eq_true (.inr (by omega))] at h
    exact h)
  have HNA : Hid (∀ x, x < g.1.length → ∃ p Af cf, A = some p ∧ ∀ W', Up w W' → p.block < W'.heap.size ∧ NdAt W' (p.add (x * 4)) (g.1.getD x ndN) (.slice Af (g.1.getD x ndN).2.length cf) ∧ Sl .u64 W' (.slice Af (g.1.getD x ndN).2.length cf) (g.1.getD x ndN).2) := Lib.hid (fun x hx => by
    obtain ⟨p, u, e, -, h1, h2⟩ := hns.at_ hx
    obtain ⟨Af, cf, rfl⟩ := h2.slice
    have hl := lt_of_cell h1.1
    rw [block_of_add] at hl
    exact ⟨p, Af, cf, e, fun W' k => ⟨k.lt hl, ⟨k.cell h1.1, k.cell h1.2.1, k.cell h1.2.2.1, k.cell h1.2.2.2⟩, h2.up k⟩⟩)
  have HR := Lib.hid hR
  have HS := Lib.hid hs
  have HT := Lib.hid hT
  have HLL := Lib.hid hL
  have H16 := Lib.hid h16
  have hc0 : decide (s < 0) = false := decide_eq_false (by omega)
  have hc1 : decide (2 ≤ s) = false := decide_eq_false (by omega)
  clear hns hrw hR hs hL hT
  go_enter Tryz.func13, Tryz.ntmps13
  go_wp2_with (fail)
  refine (HN.out _).mono ?_
  rintro e w1 ⟨P, Q, cp, cq, rfl, hs1, k1⟩
  have bR := (Blk.new' (w.alloc (.cells #[.slice A g.1.length c, .slice B g.2.length d] 30)) (g := w.heap.size + 1) (by simp) 25 mcz).up k1
  have bG := ((Blk.new w 30 #[.slice A g.1.length c, .slice B g.2.length d]).alloc (.cells mcz 25)).up k1
  have K1 := (((Up.refl w).alloc (.cells #[.slice A g.1.length c, .slice B g.2.length d] 30)).alloc (.cells mcz 25)).trans k1
  have hpb : Pb w (.slice A g.1.length c) (.slice B g.2.length d) w1 := ⟨bG, bR, K1⟩
  have gc := (bG.alloc (.cells (mec W P Q cp cq) 25)).cell
  have gl := bG.lt
  have R1l := bR.lt
  have kx : Up w1 (w1.alloc (.cells (mec W P Q cp cq) 25)) := (Up.refl w1).alloc _
  have HK := Lib.hid (K1.trans kx)
  have HPB := Lib.hid (hpb.upw kx)
  have HS1 := Lib.hid (hs1.up kx)
  have HBX := Lib.hid (Blk.new w1 25 (mec W P Q cp cq))
  clear k1 bR bG K1 hs1 hpb kx
  go_wp2_with (fail)
  refine (HLD.out _ HK.out).mono ?_
  intro e w2 hp
  unfold LaPost at hp
  rw [if_pos rfl] at hp
  obtain ⟨M, nm, D, rfl, hM, hown, hD, k2⟩ := hp
  have kb : Up w2 (w2.alloc (.cells #[.map (some M)] 76)) := (Up.refl w2).alloc _
  have had : AdBox (w2.alloc (.cells #[.map (some M)] 76)) w2.heap.size M s g.1 g.1.length := ⟨Blk.new w2 _ _, nm, D, hown.kept kb.gb (by simp), hD⟩
  have HST : Hid (Mo g w (.slice A g.1.length c) (.slice B g.2.length d) s W w1.heap.size w2.heap.size M 0 (w2.alloc (.cells #[.map (some M)] 76))) := Lib.hid (by
    refine ⟨⟨P, Q, cp, cq, HBX.out.up (k2.trans kb), ?_⟩, ?_, HPB.out.upw (k2.trans kb), had⟩
    · rw [rowP_0, mk_new]; exact HS1.out.up (k2.trans kb)
    · rw [rowP_0, mk_new]; exact ⟨fun x hx => by rw [List.eq_of_mem_replicate hx]; exact u64_0, fun x hx => by rw [List.eq_of_mem_replicate hx]; exact u64_0⟩)
  have gc2 := (HPB.out.upw (k2.trans kb)).bG.cell
  have gl2 := (HPB.out.upw (k2.trans kb)).bG.lt
  have hB9 : w.heap.size + 1 < w1.heap.size := R1l
  have hBB : w1.heap.size ≠ w2.heap.size := by have := k2.size; simp at this; omega
  clear k2 kb had hown hD gc HBX HPB HS1 HK
  go_wp2_with (fail)
  generalize w1.heap.size = B9 at *
  generalize w2.heap.size = Ba at *
  have HTR := Lib.hid (fun V0 V (hr : Rw .i64 V0 (.slice B g.2.length d) g.2) (u : Up V0 V) (ha : AdBox V Ba M s g.1 g.1.length) => turnedU_any (.slice B g.2.length d) g.2 (Adr s g.1) Ba g.1.length V0 V hr u HR.out.hn (by omega) HLL.out.1 HLL.out.2 (fun h => Adr_u64 HS.out (Nat.le_trans HT.out hW)) (fun a V' hu k => by
    have h := address_any a Ba M g.1.length s g.1 V' hu (ha.up k)
    rw [AdK_all HS.out] at h
    exact h))
  go_loopw [49] (fun i wr => MoR g w (.slice A g.1.length c) (.slice B g.2.length d) s W B9 Ba M i wr) (fun i _ => g.1.length - (intOf i).toNat)
  case atStart => exact ⟨0, Nat.zero_le _, rfl, HST.out⟩
  case round =>
    rename World => wr
    obtain ⟨x, hx, rfl, hM⟩ := hrel
    by_cases hlt : x < g.1.length
    · obtain ⟨p, Af, cf, e1, hat⟩ := HNA.out x hlt
      subst e1
      obtain ⟨P2, Q2, c2, d2, bB, sB⟩ := hM.bx
      obtain ⟨z0, ⟨z1, z2, z3, z4⟩, z5⟩ := hat wr hM.pb.up
      have HPO := Lib.hid (fun V (k : Up wr V) => put_one P2 Q2 c2 d2 (.slice Af (g.1.getD x ndN).2.length cf) V HR.out H16.out hW HS.out HT.out hlt (sB.up k) hM.wf (z5.up k) (hM.ad.up k))
      have hau : U64 ((x : Int) + 1) := by unfold U64; omega
      have hwu : IntKind.u64.wrap ((x : Int) + 1) = (x : Int) + 1 := by rw [IntKind.wrap_u64]; omega
      have hkey := key_of hau
      obtain ⟨qb, nm, D, hown, hD⟩ := hM.ad
      have HV : Hid (∀ cc, D.atKey (.int .u64 ((x : Int) + 1)) (.lit (.int .u64 0)) = .lit (.int .u64 cc) → cc = adr s (ofs g.1 x)) := Lib.hid (fun cc h => by
        rw [hD.v] at h
        have h := (Lit.int.inj (DataW.lit.inj h)).2
        rw [← h, AdK_all HS.out, show Adr s g.1 ((x : Int) + 1) = _ from if_pos (by omega), show ((x : Int) + 1).toNat - 1 = x from by omega])
      have HMM := Lib.hid hM
      have HBB := Lib.hid bB
      have hbc := bB.cell
      have hbl := bB.lt
      have hac := qb.cell
      have hal := qb.lt
      have kx := fun o => (Up.refl wr).alloc o
      have hown2 := fun o => hown.kept (kx o).gb (by simp)
      have hbc2 := fun o => ((bB.alloc o) : Blk _ _ _ _).cell
      have hac2 := fun o => ((qb.alloc o) : Blk _ _ _ _).cell
      clear hat z5 sB bB qb hD hM
      generalize (g.1.getD x ndN).1.1 = t at *
      generalize (g.1.getD x ndN).1.2.1 = l at *
      generalize (g.1.getD x ndN).1.2.2 = mp at *
      generalize (g.1.getD x ndN).2.length = ln at *
      go_wp2_with (at_lookup; refine wpList_lookup_own_int _ rfl _ _ 76 rfl 67 67 .u64 law64 Tryz.underlying76 Tryz.underlying67 (zeroU _) M nm D rfl (hown2 _) _ _ rfl hkey ?_; intro cc hat hwc; obtain rfl := HV.out cc hat)
      refine (HPO.out _ (kx _)).mono ?_
      rintro e w5 ⟨P5, Q5, c5, d5, rfl, s5, hwf5, k5⟩
      have bB5 := HBB.out.up ((kx _).trans k5)
      have hBc5 := bB5.cell
      have hBf5 := bB5.frozen
      have hBl5 := bB5.lt
      have HNX := Lib.hid (HMM.out.step hB9 hBB HBB.out ((kx _).trans k5) s5 hwf5)
      clear hown hown2 hbc2 hac2 hbc hbl hac hal z0 z1 z2 z3 z4 bB5 s5 hwf5 k5 kx
      go_wp2
      exact ⟨⟨x + 1, by omega, by go_num, HNX.out⟩, by simp [intOf]; omega⟩
    · obtain rfl : x = g.1.length := by omega
      obtain ⟨P2, Q2, c2, d2, bB, sB⟩ := hM.bx
      have hwf := hM.wf
      rw [rowP_all] at sB hwf
      have HTD := Lib.hid (HTR.out w wr.drew HRW.out hM.pb.up.drew (hM.ad.up (Up.refl wr).drew))
      have HSS := Lib.hid (sB.up (Up.refl wr).drew)
      have HWF := Lib.hid hwf
      have HBB := Lib.hid (bB.up (Up.refl wr).drew)
      have HPB := Lib.hid (hM.pb.upw (Up.refl wr).drew)
      have hbc := bB.cell
      have hbl := bB.lt
      have qG := hM.pb.bG.cell
      have lG := hM.pb.bG.lt
      clear hM bB sB hwf
      unfold TvPost at HTD
      go_wp2_with (fail)
      go_region_with (go_at_call 42; (with_reducible refine HTD.out.mono ?_); rintro e w5 ⟨G5, rfl, r5, k5⟩; have bB5 := HBB.out.up k5; have hBc5 := bB5.cell; have hBl5 := bB5.lt; have bR5 := HPB.out.bR.up k5; have R1c := bR5.cell; have R1f := bR5.frozen; have R1l := bR5.lt)
      all_goals
        go_wp2
        refine bodyPost_ret (v := .tuple #[mev W P2 Q2 c2 d2, .slice (some ⟨G5, 0, none⟩) g.2.length g.2.length, .int .i64 0]) (by simp [results, Tryz.results13, go_sem, R1c, R1l, R1f, Nat.ne_of_lt R1l]) rfl ?_
        exact ⟨P2, Q2, c2, d2, _, _, rfl, (HSS.out.up k5).far3 bR5 _ _ _, HWF.out, r5 _ (fun b t cs ht hb => hb.far3 (hb.ne_type bR5 ht) _ _ _), (HPB.out.up.trans k5).set3 (by omega) _ _ _⟩
theorem mput16_any (v : Value) (g : Gr) (words space : Int) (w : World) (hg : GrV w v g) (hR : Rg g) (hL : g.2.length ≤ 1048576 ∧ ∀ row ∈ g.2, row.length ≤ 17592186044416) (hn9 : g.1.length ≤ 1000) (hI : I64 words) :
    Calls Tryz.prog 13 #[v, .int .i64 words, .int .i64 space] w (Put16 g words space w) := by
  by_cases h0 : bnd words = 0
  · obtain ⟨h16, hW⟩ := bnd_ok h0
    obtain ⟨W, rfl⟩ : ∃ W : Nat, words = W := ⟨words.toNat, by omega⟩
    have h16' : 16 ≤ W := by omega
    have hW' : W ≤ 4096 := by omega
    by_cases hs : space = 0 ∨ space = 1
    · by_cases ht : tot g.1 ≤ W
      · refine (mput_go v g W space w hg hR h16' hW' hs hL hn9 ht).mono fun e w' hp => ?_
        have ep : pte g W space = 0 := by
          unfold pte
          rw [if_neg (by simp [h0]), if_neg (by omega), if_neg (by omega)]
        unfold Put16
        rw [if_pos ep]
        exact hp
      · refine (mput_no v g W space 4 w hg hR hn9 h16' hW' (.inr (.inr ⟨hs, ht, rfl⟩))).mono fun e w' hp => ?_
        have ep : pte g W space = 4 := by
          unfold pte
          rw [if_neg (by simp [h0]), if_neg (by omega), if_pos (by omega)]
        unfold Put16
        rw [ep, if_neg (by decide)]
        exact hp
    · refine (mput_no v g W space 1 w hg hR hn9 h16' hW' (by omega)).mono fun e w' hp => ?_
      have ep : pte g W space = 1 := by
        unfold pte
        rw [if_neg (by simp [h0]), if_pos (by omega)]
      unfold Put16
      rw [ep, if_neg (by decide)]
      exact hp
  · refine (mput_bnd v g words space _ w hg hR hn9 hI (bnd_13 h0) rfl).mono fun e w' hp => ?_
    have ep : pte g words space = bnd words := by
      unfold pte
      rw [if_pos h0]
    unfold Put16
    rw [ep, if_neg h0]
    exact hp
end Go.Proofs.YtanhhkdoejnpiaaGreat.G
