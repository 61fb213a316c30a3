/- A node is put (view.put): contract. -/
import Derived.Test.YtanhhkdoejnpiaaGreatQb
import Derived.Test.YtanhhkdoejnpiaaGreatPb
namespace Go.Proofs.YtanhhkdoejnpiaaGreat.G
open Go.Joins Go.ChangeShapes Go.WideShapes Go.ChangeAt Go.RowKit Go.Deep Go.Shelf Go.Maps
set_option linter.unusedVariables false
set_option linter.unusedSimpArgs false

theorem mput_let {g : Gr} {k W : Nat} {s : Int} (P Q : Addr) (c d : Nat) (V : World) (hm : Sits V (mk W s (rowP (Adr s g.1) g.1 W k)) P Q c d) (h : k < g.1.length) (hh : NdHd (g.1.getD k ndN)) (hs : s = 0 ∨ s = 1) (h16 : 16 ≤ W) (hW : W ≤ 4096) (hf : ofs g.1 (k + 1) ≤ W) :
    Calls Tryz.prog 86 #[mev W P Q c d, .int .u64 (adr s (ofs g.1 k)), hdv (g.1.getD k ndN).1.1 (g.1.getD k ndN).1.2.1 (g.1.getD k ndN).1.2.2] V fun e w' => ∃ P' Q' c' d', e = .returned (.tuple #[mev W P' Q' c' d', .int .i64 0]) ∧ Sits w' (G.mk W s (rowQ (Adr s g.1) g.1 W k 0)) P' Q' c' d' ∧ Up V w' := by
  have hst := ofs_step h
  obtain ⟨q1, q2⟩ := putP (A := Adr s g.1) h hh hs h16 hW hf
  have h1 := put_any (mk W s (rowP (Adr s g.1) g.1 W k)) (adr s (ofs g.1 k)) (g.1.getD k ndN).1.1 (g.1.getD k ndN).1.2.1 (g.1.getD k ndN).1.2.2 P Q c d V hm (by unfold adr U64; omega) hh.h.m
  rw [q1, q2, mk_n] at h1
  refine h1.mono ?_
  rintro e w' ⟨P', Q', c', d', rfl, h2, h3⟩
  rw [mk_n]
  exact ⟨P', Q', c', d', rfl, h2, h3⟩
theorem mset_let {g : Gr} {k W i : Nat} {s : Int} (P Q : Addr) (c d : Nat) (V : World) (hm : Sits V (G.mk W s (rowQ (Adr s g.1) g.1 W k i)) P Q c d) (hwf : (G.mk W s (rowQ (Adr s g.1) g.1 W k i)).wf) (h : k < g.1.length) (hh : NdHd (g.1.getD k ndN)) (hs : s = 0 ∨ s = 1) (hW : W ≤ 4096) (hf : ofs g.1 (k + 1) ≤ W) (hi : i < (g.1.getD k ndN).2.length) :
    Calls Tryz.prog 87 #[mev W P Q c d, .int .u64 (adr s (ofs g.1 k)), .int .i64 i, .int .u64 ((mpF (Adr s g.1) (g.1.getD k ndN)).2.getD i 0)] V fun e w' => ∃ P' Q' c' d' x, e = .returned (.tuple #[mev W P' Q' c' d', .int .i64 x]) ∧ Sits w' (G.mk W s (rowQ (Adr s g.1) g.1 W k (i + 1))) P' Q' c' d' ∧ Up V w' := by
  have hst := ofs_step h
  have h1 := set_any (G.mk W s (rowQ (Adr s g.1) g.1 W k i)) (adr s (ofs g.1 k)) i ((mpF (Adr s g.1) (g.1.getD k ndN)).2.getD i 0) P Q c d V hm (by unfold adr U64; omega) hwf
  rw [setQ h hh hs hW hf hi, mk_n] at h1
  refine h1.mono ?_
  rintro e w' ⟨P', Q', c', d', rfl, h2, h3⟩
  rw [mk_n]
  exact ⟨P', Q', c', d', _, rfl, h2, h3⟩
structure Po (g : Gr) (s : Int) (W k : Nat) (w : World) (nd : Array Value) (z : Nat) (wr : World) : Prop where
  bx : ∃ P Q c d, Blk wr w.heap.size 25 (mec W P Q c d) ∧ Sits wr (G.mk W s (rowQ (Adr s g.1) g.1 W k z)) P Q c d
  bN : Blk wr (w.heap.size + 1) 71 nd
  bR : Blk wr (w.heap.size + 1 + 1) 25 mcz
  wf : (G.mk W s (rowQ (Adr s g.1) g.1 W k z)).wf
  up : Up w wr
theorem Po.step {g : Gr} {s : Int} {W k : Nat} {w wr w5 : World} {nd : Array Value} {z : Nat} {P Q P5 Q5 : Addr} {c d c5 d5 : Nat} (h : Po g s W k w nd z wr) (bB : Blk wr w.heap.size 25 (mec W P Q c d)) (u : Up wr w5) (s5 : Sits w5 (G.mk W s (rowQ (Adr s g.1) g.1 W k (z + 1))) P5 Q5 c5 d5) (hwf : (G.mk W s (rowQ (Adr s g.1) g.1 W k (z + 1))).wf) :
    Po g s W k w nd (z + 1) (((w5.setCell ⟨w.heap.size, 0, none⟩ (.int .i64 W)).setCell ⟨w.heap.size, 1, none⟩ (.slice (some P5) W c5)).setCell ⟨w.heap.size, 2, none⟩ (.slice (some Q5) W d5)) := by
  have bB5 := bB.up u
  exact ⟨⟨P5, Q5, c5, d5, bB5.set3 _ _ _, s5.far3 bB5 _ _ _⟩, (h.bN.up u).far3 (by omega) _ _ _, (h.bR.up u).far3 (by omega) _ _ _, hwf, (h.up.trans u).set3 (Nat.le_refl _) _ _ _⟩
theorem Po.same {g : Gr} {s : Int} {W k : Nat} {w wr w5 : World} {nd : Array Value} {z : Nat} (h : Po g s W k w nd z wr) (e : rowQ (Adr s g.1) g.1 W k z = rowQ (Adr s g.1) g.1 W k (z + 1)) (u : Up wr w5) : Po g s W k w nd (z + 1) w5 := by
  obtain ⟨P, Q, c, d, b, q⟩ := h.bx
  have hw := h.wf
  rw [e] at q hw
  exact ⟨⟨P, Q, c, d, b.up u, q.up u⟩, h.bN.up u, h.bR.up u, hw, h.up.trans u⟩
def PoR (g : Gr) (s : Int) (W k : Nat) (w : World) (nd : Array Value) (i : Value) (wr : World) : Prop := ∃ z : Nat, z ≤ (g.1.getD k ndN).2.length ∧ i = .int .i64 z ∧ Po g s W k w nd z wr
def PoPost (g : Gr) (s : Int) (W k : Nat) (w : World) (e : Ending) (w' : World) : Prop :=
  ∃ P Q c d, e = .returned (mev W P Q c d) ∧ Sits w' (mk W s (rowP (Adr s g.1) g.1 W (k + 1))) P Q c d ∧ (mk W s (rowP (Adr s g.1) g.1 W (k + 1))).wf ∧ Up w w'
set_option maxRecDepth 100000 in
set_option maxHeartbeats 8000000 in
theorem put_one {g : Gr} {W k B M : Nat} {s : Int} (P Q : Addr) (c d : Nat) (u : Value) (w : World) (hR : Rg g) (h16 : 16 ≤ W) (hW : W ≤ 4096) (hs : s = 0 ∨ s = 1) (hT : tot g.1 ≤ W) (hk : k < g.1.length) (hm : Sits w (mk W s (rowP (Adr s g.1) g.1 W k)) P Q c d) (hwf : (mk W s (rowP (Adr s g.1) g.1 W k)).wf)
    (hu : Sl .u64 w u (g.1.getD k ndN).2) (hA : AdBox w B M s g.1 g.1.length) :
    Calls Tryz.prog 41 #[mev W P Q c d, .int .u64 (adr s (ofs g.1 k)), .agg #[.int .i64 (g.1.getD k ndN).1.1, .int .i64 (g.1.getD k ndN).1.2.1, .int .u64 (g.1.getD k ndN).1.2.2, u], .func (.func 40) #[] #[bx B]] w (PoPost g s W k w) := by
  have hf : ofs g.1 (k + 1) ≤ W := Nat.le_trans (ofs_tot hk) hT
  have hnh := hR.ndhd hk
  have HMEM : Hid (g.1.getD k ndN ∈ g.1) := Lib.hid (getD_mem ndN hk)
  have HPT := Lib.hid (fun V (u : Up w V) => mput_let P Q c d V (hm.up u) hk hnh hs h16 hW hf)
  have HST := Lib.hid (fun i P Q c d V hm hwf hi => mset_let (i := i) P Q c d V hm hwf hk hnh hs hW hf hi)
  have HS0 := Lib.hid (fun i hi h0 => setQ0 (A := Adr s g.1) (ns := g.1) (W := W) (k := k) (i := i) hi h0)
  have HSQ := Lib.hid (fun i hi => setQ (A := Adr s g.1) (ns := g.1) (W := W) (k := k) (i := i) hk hnh hs hW hf hi)
  have HWF0 : Hid ((G.mk W s (rowQ (Adr s g.1) g.1 W k 0)).wf) := Lib.hid (by
    rw [← (putP (A := Adr s g.1) hk hnh hs h16 hW hf).1]
    exact put_wf hnh.h.m hwf)
  have HEND := Lib.hid (rowQ_end (A := Adr s g.1) (ns := g.1) (W := W) hk)
  have hdk := hnh.h
  have hll := hnh.l
  have HAD := Lib.hid (fun a V (ha : U64 a) (k : Up w V) => address_any a B M g.1.length s g.1 V ha (hA.up k))
  have HAK := Lib.hid (AdK_all hs g.1)
  have HUA := Lib.hid (fun h => Adr_u64 (ns := g.1) (h := h) hs (Nat.le_trans hT hW))
  have HRG := Lib.hid hR
  obtain ⟨nd, hnd⟩ : ∃ nd, g.1.getD k ndN = nd := ⟨_, rfl⟩
  have HND := Lib.hid hnd
  rw [hnd] at HMEM HPT HST HS0 HSQ HEND hdk hll hu ⊢
  obtain ⟨ln, hln⟩ : ∃ ln, nd.2.length = ln := ⟨_, rfl⟩
  obtain ⟨t, ht⟩ : ∃ t, nd.1.1 = t := ⟨_, rfl⟩
  obtain ⟨l, hl⟩ : ∃ l, nd.1.2.1 = l := ⟨_, rfl⟩
  obtain ⟨mp, hmp⟩ : ∃ mp, nd.1.2.2 = mp := ⟨_, rfl⟩
  rw [ht, hl, hmp] at hdk HPT ⊢
  rw [hln] at hll
  rw [hl] at hll
  obtain ⟨l0, l1, l2, l3⟩ := hdk.len
  have HHD := Lib.hid (show nd.1.1 = t ∧ nd.1.2.1 = l ∧ nd.1.2.2 = mp ∧ nd.2.length = ln from ⟨ht, hl, hmp, hln⟩)
  have HPTR := Lib.hid (fun (z : Int) (hz : z ≤ 62) V => ptr_any t l mp z hdk.m (by omega) hz V)
  obtain ⟨Af, cf, rfl⟩ := hu.slice
  have HSU := Lib.hid (fun V (u : Up w V) => hu.up u)
  rw [hln] at HSU
  rw [hln]
  clear hm hwf hu hA hR hnh hnd hdk ht hl hmp hln
  go_enter Tryz.func41, Tryz.ntmps41
  go_wp2_with (fail)
  obtain ⟨W0, hW0⟩ : ∃ W0, W0 = ((w.alloc (.cells (mec W P Q c d) 25)).alloc (.cells #[.int .i64 t, .int .i64 l, .int .u64 mp, .slice Af ln cf] 71)).alloc (.cells mcz 25) := ⟨_, rfl⟩
  have k0 : Up w W0 := by rw [hW0]; exact (((Up.refl w).alloc _).alloc _).alloc _
  have bM0 : Blk W0 w.heap.size 25 (mec W P Q c d) := by rw [hW0]; exact ((Blk.new w _ _).alloc _).alloc _
  have bN0 : Blk W0 (w.heap.size + 1) 71 #[.int .i64 t, .int .i64 l, .int .u64 mp, .slice Af ln cf] := by rw [hW0]; exact (Blk.new' _ (by simp) _ _).alloc _
  have bR0 : Blk W0 (w.heap.size + 1 + 1) 25 mcz := by rw [hW0]; exact Blk.new' _ (by simp) _ _
  rw [← hW0]
  refine (HPT.out W0 k0).mono ?_
  rintro e w1 ⟨P1, Q1, c1, d1, rfl, s1, k1⟩
  have bM1 := bM0.up k1
  have bN1 := bN0.up k1
  have bR1 := bR0.up k1
  have hst0 : Po g s W k w #[.int .i64 t, .int .i64 l, .int .u64 mp, .slice Af ln cf] 0 (((w1.setCell ⟨w.heap.size, 0, none⟩ (.int .i64 W)).setCell ⟨w.heap.size, 1, none⟩ (.slice (some P1) W c1)).setCell ⟨w.heap.size, 2, none⟩ (.slice (some Q1) W d1)) :=
    ⟨⟨P1, Q1, c1, d1, bM1.set3 _ _ _, s1.far3 bM1 _ _ _⟩, bN1.far3 (by omega) _ _ _, bR1.far3 (by omega) _ _ _, HWF0.out, (k0.trans k1).set3 (Nat.le_refl _) _ _ _⟩
  have HST0 := Lib.hid hst0
  have q1 := bM1.cell
  have q2 := bM1.frozen
  have q3 := bM1.lt
  have q4 := hst0.bN.cell
  have q5 := hst0.bN.lt
  clear hW0 k0 bM0 bN0 bR0 bM1 bN1 bR1 hst0 s1 k1 HPT
  go_wp2_with (fail)
  clear q1 q2 q3 q4 q5
  go_loopw [22] (fun i wr => PoR g s W k w #[.int .i64 t, .int .i64 l, .int .u64 mp, .slice Af ln cf] i wr) (fun i _ => ln - (intOf i).toNat)
  case atStart => exact ⟨0, Nat.zero_le _, rfl, HST0.out⟩
  case round =>
    rename World => wr
    obtain ⟨z, hz, rfl, hP⟩ := hrel
    rw [HND.out, HHD.out.2.2.2] at hz
    obtain ⟨P2, Q2, c2, d2, bB, sB⟩ := hP.bx
    by_cases hlz : z < ln
    · obtain ⟨q1, q2, q3, q4⟩ := HHD.out
      obtain ⟨pe, rfl, hce⟩ := (HSU.out wr hP.up).at_ hlz
      have hle := lt_of_cell hce
      rw [block_of_add] at hle
      have hzl : z < nd.2.length := by rw [q4]; exact hlz
      have hmp := mp_at (Adr s g.1) nd hzl
      have hfu := HRG.out.fu nd HMEM.out _ (getD_mem 0 hzl)
      have hpt := HRG.out.pt nd HMEM.out z hzl
      unfold isP at hmp hpt
      rw [q2, q3] at hmp hpt
      obtain ⟨v0, hv0⟩ : ∃ v0, nd.2.getD z 0 = v0 := ⟨_, rfl⟩
      rw [hv0] at hmp hfu hpt hce
      have hptr := HPTR.out z (by omega) wr
      have HWN : Hid ((mk W s (rowQ (Adr s g.1) g.1 W k (z + 1))).wf) := Lib.hid (by
        rw [← HSQ.out z hzl]
        unfold Me.setm
        split
        · refine hP.wf.st ?_ _
          rw [hmp]
          split
          · exact HUA.out _
          · exact hfu
        · exact hP.wf)
      obtain ⟨y, hy⟩ : ∃ y, (mpF (Adr s g.1) nd).2.getD z 0 = y := ⟨_, rfl⟩
      obtain ⟨b, hb⟩ : ∃ b, ptb l mp z = b := ⟨_, rfl⟩
      rw [hb] at hmp hpt hptr
      rw [hy] at hmp
      have HPTR2 := Lib.hid hptr
      have HP := Lib.hid hP
      have HBB := Lib.hid bB
      have HSS := Lib.hid sB
      have hn4 := hP.bN.cell
      have hl4 := hP.bN.lt
      clear hP bB sB hb hptr q1 q2 q3 q4 hv0
      cases b with
      | true =>
        rw [if_pos rfl] at hmp
        have HAV := Lib.hid (fun V (u : Up w V) => by
          have h := HAD.out v0 V hfu u
          rw [HAK.out, ← hmp] at h
          exact h)
        go_wp2_with (fail)
        refine HPTR2.out.mono ?_
        rintro e w6 ⟨rfl, k6⟩
        go_wp2_with (fail)
        refine (HAV.out _ (HP.out.up.trans k6)).mono ?_
        rintro e w7 ⟨rfl, h7⟩
        rw [h7]
        clear hmp h7
        by_cases hy0 : y = 0
        · subst hy0
          have HNX : Hid (Po g s W k w #[.int .i64 t, .int .i64 l, .int .u64 mp, .slice (some pe) ln cf] (z + 1) w6) := Lib.hid (HP.out.same (HS0.out z hzl hy) k6)
          clear k6 hce hle hn4 hl4 hpt hfu
          go_wp2
          exact ⟨⟨z + 1, by rw [HND.out, HHD.out.2.2.2]; omega, by go_num, HNX.out⟩, by simp [intOf]; omega⟩
        · have hyb : (y != 0) = true := bne_iff_ne.2 hy0
          have HSET := Lib.hid (by
            have h := HST.out z P2 Q2 c2 d2 w6 (HSS.out.up k6) HP.out.wf hzl
            rw [hy] at h
            exact h)
          have HK6 := Lib.hid k6
          have bM6 := HBB.out.up k6
          have hBc := bM6.cell
          have hBl := bM6.lt
          clear bM6 k6 hce hle hn4 hl4 hpt hfu hy0
          go_wp2_with (fail)
          refine HSET.out.mono ?_
          rintro e w5 ⟨P5, Q5, c5, d5, xx, rfl, s5, k5⟩
          have bM5 := (HBB.out.up HK6.out).up k5
          have hBc5 := bM5.cell
          have hBf5 := bM5.frozen
          have hBl5 := bM5.lt
          have HNX := Lib.hid (HP.out.step HBB.out (HK6.out.trans k5) s5 HWN.out)
          clear bM5 s5 k5 hBc hBl
          go_wp2
          exact ⟨⟨z + 1, by rw [HND.out, HHD.out.2.2.2]; omega, by go_num, HNX.out⟩, by simp [intOf]; omega⟩
      | false =>
        rw [if_neg (by decide)] at hmp
        subst hmp
        go_wp2_with (fail)
        refine HPTR2.out.mono ?_
        rintro e w6 ⟨rfl, k6⟩
        by_cases hy0 : y = 0
        · subst hy0
          have HNX : Hid (Po g s W k w #[.int .i64 t, .int .i64 l, .int .u64 mp, .slice (some pe) ln cf] (z + 1) w6) := Lib.hid (HP.out.same (HS0.out z hzl hy) k6)
          clear k6 hce hle hn4 hl4 hpt hfu
          go_wp2
          exact ⟨⟨z + 1, by rw [HND.out, HHD.out.2.2.2]; omega, by go_num, HNX.out⟩, by simp [intOf]; omega⟩
        · have hyb : (y != 0) = true := bne_iff_ne.2 hy0
          have HSET := Lib.hid (by
            have h := HST.out z P2 Q2 c2 d2 w6 (HSS.out.up k6) HP.out.wf hzl
            rw [hy] at h
            exact h)
          have HK6 := Lib.hid k6
          have bM6 := HBB.out.up k6
          have hBc := bM6.cell
          have hBl := bM6.lt
          clear bM6 k6 hce hle hn4 hl4 hpt hfu hy0
          go_wp2_with (fail)
          refine HSET.out.mono ?_
          rintro e w5 ⟨P5, Q5, c5, d5, xx, rfl, s5, k5⟩
          have bM5 := (HBB.out.up HK6.out).up k5
          have hBc5 := bM5.cell
          have hBf5 := bM5.frozen
          have hBl5 := bM5.lt
          have HNX := Lib.hid (HP.out.step HBB.out (HK6.out.trans k5) s5 HWN.out)
          clear bM5 s5 k5 hBc hBl
          go_wp2
          exact ⟨⟨z + 1, by rw [HND.out, HHD.out.2.2.2]; omega, by go_num, HNX.out⟩, by simp [intOf]; omega⟩
    · obtain rfl : z = ln := by omega
      have he := HEND.out
      rw [HHD.out.2.2.2] at he
      rw [he] at sB
      have hwf := hP.wf
      rw [he] at hwf
      have HWF := Lib.hid hwf
      have HSS := Lib.hid sB
      have hBc := bB.cell
      have hBl := bB.lt
      have R1 := hP.bR
      have R1c := R1.cell
      have R1f := R1.frozen
      have R1l := R1.lt
      have HU := Lib.hid hP.up
      clear hP sB hwf he
      go_wp2
      refine bodyPost_ret (v := mev W P2 Q2 c2 d2) (by simp [results, Tryz.results41, go_sem, R1c, R1l, R1f, Nat.ne_of_lt R1l]) rfl ?_
      exact ⟨P2, Q2, c2, d2, rfl, HSS.out.far3 R1 _ _ _, HWF.out, HU.out.set3 (by omega) _ _ _⟩
end Go.Proofs.YtanhhkdoejnpiaaGreat.G
