/- The document's Canon of graphs: contract. -/
import Derived.Test.YtanhhkdoejnpiaaGreatGg
/-! Of stage 15 -/
namespace Go.Proofs.YtanhhkdoejnpiaaGreat.G
open Go.Joins Go.ChangeShapes Go.WideShapes Go.ChangeAt Go.RowKit Go.Deep Go.Shelf Go.Maps
set_option linter.unusedVariables false
set_option linter.unusedSimpArgs false

structure Rc0 (w : World) (va vb : Value) (wr : World) : Prop where
  bG : Blk wr w.heap.size 30 #[va, vb]
  bR : Blk wr (w.heap.size + 1) 30 #[.slice none 0 0, .slice none 0 0]
  up : Up w wr
set_option maxRecDepth 100000 in
theorem Rc0.upw {w wr wc : World} {va vb : Value} (h : Rc0 w va vb wr) (k : Up wr wc) : Rc0 w va vb wc := ⟨h.bG.up k, h.bR.up k, h.up.trans k⟩
def Q1_ (g : Gr) (w : World) (va vb : Value) (u i : Value) (wr : World) : Prop := ∃ j : Nat, j ≤ g.2.length ∧ i = .int .i64 j ∧ SlR wr u (vall g 1001 (rup g.2 j 0) []) ∧ Rc0 w va vb wr
def Q2_ (g : Gr) (w : World) (va vb : Value) (j : Nat) (u i : Value) (wr : World) : Prop := ∃ x : Nat, x ≤ (g.2.getD j []).length ∧ i = .int .i64 x ∧ SlR wr u (vall g 1001 (rup g.2 j x) []) ∧ Rc0 w va vb wr
def Q3_ (g : Gr) (w : World) (va vb : Value) (o : List Int) (uo : Value) (OB : Nat) (i : Value) (wr : World) : Prop := ∃ (x : Nat) (vn : Value) (us : List Value), x ≤ o.length ∧ i = .int .i64 x ∧ Nb g w va vb o uo OB x vn us wr
def Q4_ (w wr : World) (o : List Int) (nd : Nd) (Fv F0 v8 : Value) (nP : Nat) (i : Value) (w5 : World) : Prop := ∃ z : Nat, z ≤ (pix nd).length ∧ i = .int .i64 z ∧ w5.ownsRow wr.heap.size 67 1 Fv nd.2.length ((fm o nd z).map (Value.int .u64)) ∧ Up wr w5 ∧ Blk w5 wr.heap.size 71 #[.int .i64 nd.1.1, .int .i64 nd.1.2.1, .int .u64 nd.1.2.2, F0] ∧ Loi w5 nP v8 (pix nd)
def Q5_ (g : Gr) (w : World) (va vb : Value) (o : List Int) (uo : Value) (OB : Nat) (vn : Value) (us : List Value) (i : Value) (wr : World) : Prop := ∃ (j : Nat) (us2 : List Value) (vs : Value), j ≤ g.2.length ∧ i = .int .i64 j ∧ Sb g w va vb o uo OB j vn us vs us2 wr
def Q6_ (o row : List Int) (wr : World) (u i : Value) (w5 : World) : Prop := ∃ x : Nat, x ≤ row.length ∧ i = .int .i64 x ∧ w5.ownsRow wr.heap.size 3 1 u x (((row.take x).map (pl o)).map (Value.int .i64)) ∧ Up wr w5
set_option maxRecDepth 100000 in
theorem vall_td (g : Gr) (hn : g.1.length ≤ 1000) (hs : List Int) : More g hs [] (vall g 1001 hs []) := vall_more (vis_more g 1001) hs [] ⟨by simp, fun m hm => (by cases hm)⟩ (by simp; omega)
set_option maxRecDepth 100000 in
set_option maxHeartbeats 8000000 in
theorem rcanon_any (v : Value) (g : Gr) (w : World) (hg : GrV w v g) (hR : Rg g) (hn : g.1.length ≤ 1000) (hF : FitG g) : Calls Tryz.prog 22 #[v] w fun e w' => ∃ u, e = .returned u ∧ GrV w' u (canon g) ∧ Up w w' := by
  obtain ⟨A, c, B, d, rfl, m1, m2⟩ := hg.form
  have HG := Lib.hid hg
  obtain ⟨va, vb, e, ⟨us0, hns⟩, hrw⟩ := hg
  simp only [Value.agg.injEq, Array.mk.injEq, List.cons.injEq, and_true] at e
  obtain ⟨rfl, rfl⟩ := e
  have HNS := Lib.hid hns
  have HRW := Lib.hid hrw
  have HR := Lib.hid hR
  have HN := Lib.hid hn
  have HF := Lib.hid hF
  have HV := Lib.hid (rvisit_any g hR (by omega) 1001)
  have bG := (Blk.new w 30 #[.slice A g.1.length c, .slice B g.2.length d]).alloc (.cells #[.slice none 0 0, .slice none 0 0] 30)
  have bR := Blk.new' (w.alloc (.cells #[.slice A g.1.length c, .slice B g.2.length d] 30)) (g := w.heap.size + 1) (by simp) 30 #[.slice none 0 0, .slice none 0 0]
  have k2 := ((Up.refl w).alloc (.cells #[.slice A g.1.length c, .slice B g.2.length d] 30)).alloc (.cells #[.slice none 0 0, .slice none 0 0] 30)
  have HST : Hid (Rc0 w (.slice A g.1.length c) (.slice B g.2.length d) _) := Lib.hid ⟨bG, bR, k2⟩
  clear hns hrw hR hF bG bR k2
  go_enter Tryz.func22, Tryz.ntmps22
  go_wp2_with (fail)
  generalize ((w.alloc (.cells #[.slice A g.1.length c, .slice B g.2.length d] 30)).alloc (.cells #[.slice none 0 0, .slice none 0 0] 30)) = w2 at *
  go_loopw [3, 4] (fun u i wr => Q1_ g w (.slice A g.1.length c) (.slice B g.2.length d) u i wr) (fun _ i _ => g.2.length - (intOf i).toNat)
  case atStart => exact ⟨0, Nat.zero_le _, rfl, by rw [rup_0]; exact fun w' _ => Sl.nil _ _, HST.out⟩
  case round =>
    rename World => wo
    obtain ⟨j, hj, rfl, hs, hI⟩ := hrel
    have qG := hI.bG.cell
    have lG := hI.bG.lt
    by_cases hlt : j < g.2.length
    · obtain ⟨p, u2, rfl, hcu, hsu⟩ := (HRW.out.up hI.up).at_ hlt
      obtain ⟨Ar, cr, rfl⟩ := hsu.slice
      have hlp := lt_of_cell hcu
      rw [block_of_add] at hlp
      have HSU := Lib.hid (fun W (k : Up wo W) => hsu.up k)
      have hmx := hsu.max
      unfold maxLen at hmx
      have HCU := Lib.hid (fun W (k : Up wo W) => k.cell hcu)
      have HI := Lib.hid hI
      have HS := Lib.hid hs
      have HRN := Lib.hid (HR.out.hn (g.2.getD j []) (by simp [List.getD, List.getElem?_eq_getElem hlt]))
      clear hI hs hsu
      obtain ⟨row, hrow⟩ : ∃ row, g.2.getD j [] = row := ⟨_, rfl⟩
      rw [hrow] at HSU hmx HCU HRN hcu
      have HRO := Lib.hid hrow
      clear hrow
      obtain ⟨ln, hln⟩ : ∃ ln, row.length = ln := ⟨_, rfl⟩
      rw [hln] at HSU hmx HCU hcu
      have HLN := Lib.hid hln
      clear hln
      go_wp2_with (fail)
      go_loopw [3, 5] (fun u i wr => Q2_ g w (.slice A g.1.length c) (.slice (some p) g.2.length d) j u i wr ∧ Up wo wr) (fun _ i _ => ln - (intOf i).toNat)
      case atStart => exact ⟨⟨0, Nat.zero_le _, rfl, HS.out, HI.out⟩, Up.refl _⟩
      case round =>
        rename World => wr
        obtain ⟨⟨x, hx, rfl, hs, hI⟩, U⟩ := hrel
        rw [HRO.out, HLN.out] at hx
        have qGr := hI.bG.cell
        have lGr := hI.bG.lt
        have hcr := HCU.out wr U
        have hlpr := U.lt hlp
        by_cases hlx : x < ln
        · obtain ⟨pe, rfl, hce⟩ := (HSU.out wr U).at_ hlx
          have hle := lt_of_cell hce
          rw [block_of_add] at hle
          obtain ⟨h, hh⟩ : ∃ h, row.getD x 0 = h := ⟨_, rfl⟩
          have hb := HRN.out h (by rw [← hh]; exact getD_mem 0 (by rw [HLN.out]; exact hlx))
          rw [hh] at hce
          have MO := vall_td g HN.out (rup g.2 j x)
          have HCL := Lib.hid (HV.out _ _ h _ wr.drew (HG.out.up hI.up.drew) (hs.up ((Up.refl wr).drew)) MO.td (by have := HN.out; omega) hb.1 hb.2)
          have HSTP : Hid (vall g 1001 (rup g.2 j (x + 1)) [] = vis g 1001 h (vall g 1001 (rup g.2 j x) [])) := Lib.hid (by
            rw [rup_step (by rw [HRO.out, HLN.out]; exact hlx), HRO.out, hh, vall_app, vall_one])
          have HI2 := Lib.hid hI
          have HU2 := Lib.hid U
          clear hs hI U MO hh hb
          go_wp2_with (fail)
          go_region_with (go_at_call 55; (with_reducible refine HCL.out.mono ?_); rintro e w5 ⟨u5, rfl, hs5, k5⟩)
          all_goals
            have HS5 := Lib.hid hs5
            have K5 := Lib.hid ((Up.refl wr).drew.trans k5)
            clear hs5 k5
            go_wp2
            exact ⟨⟨⟨x + 1, by rw [HRO.out, HLN.out]; omega, by go_num, by rw [HSTP.out]; exact HS5.out, HI2.out.upw K5.out⟩, HU2.out.trans K5.out⟩, by simp [intOf]; omega⟩
        · obtain rfl : x = ln := by omega
          have HI2 := Lib.hid hI
          have HS5 : Hid (SlR wr _ (vall g 1001 (rup g.2 (j + 1) 0) [])) := Lib.hid (by rw [← rup_next hlt (by rw [HRO.out, HLN.out])]; exact hs)
          clear hs hI U
          go_wp2
          exact ⟨⟨j + 1, by omega, by go_num, HS5.out, HI2.out⟩, by simp [intOf]; omega⟩
    · obtain rfl : j = g.2.length := by omega
      rw [rup_all] at hs
      replace hs : SlR wo _ (ord g) := hs
      have MO := vall_td g hn g.2.flatten
      replace MO : More g g.2.flatten [] (ord g) := MO
      obtain ⟨o, ho⟩ : ∃ o, ord g = o := ⟨_, rfl⟩
      rw [ho] at hs MO
      have HO := Lib.hid ho
      have HTD := Lib.hid MO.td
      obtain ⟨Ao, co, rfl⟩ := hs.out.slice
      have hom := hs.out.max
      unfold maxLen at hom
      have k3 : Up wo (wo.alloc (.cells #[.slice none 0 0, .slice none 0 0] 30)) := (Up.refl wo).alloc _
      have hst : Nb g w (.slice A g.1.length c) (.slice B g.2.length d) o (.slice Ao o.length co) wo.heap.size 0 (.slice none 0 0) [] (wo.alloc (.cells #[.slice none 0 0, .slice none 0 0] 30)) :=
        ⟨hI.bG.up k3, hI.bR.up k3, Blk.new wo _ _, hI.bR.lt, hs.up k3, World.ownsRow_nil _ _ _ _, rfl, fun k u m h => (by simp at h), hI.up.trans k3⟩
      have HS3 := Lib.hid hst
      clear hs hI MO ho hst k3 HST HV
      go_wp2_with (fail)
      generalize (wo.alloc (.cells #[.slice none 0 0, .slice none 0 0] 30)) = w3 at *
      go_loopw [7] (fun i wr => Q3_ g w (.slice A g.1.length c) (.slice B g.2.length d) o (.slice Ao o.length co) wo.heap.size i wr) (fun i _ => o.length - (intOf i).toNat)
      case atStart => exact ⟨0, _, _, Nat.zero_le _, rfl, HS3.out⟩
      case round =>
        rename World => wr
        obtain ⟨x, vn, us, hx, rfl, hN⟩ := hrel
        by_cases hlx : x < o.length
        · obtain ⟨po, rfl, hco⟩ := hN.so.out.at_ hlx
          have hlo := lt_of_cell hco
          rw [block_of_add] at hlo
          have hmo : o.getD x 0 ∈ o := getD_mem 0 hlx
          have hin := HTD.out.inn _ hmo
          obtain ⟨y, hy⟩ : ∃ y : Nat, o.getD x 0 = (y : Int) + 1 := ⟨(o.getD x 0).toNat - 1, by have := hin.1; omega⟩
          rw [hy] at hco hin
          have hyl : y < g.1.length := by have := hin.2; omega
          obtain ⟨p, uf, rfl, -, ⟨z0, z1, z2, z3⟩, hsl⟩ := (HNS.out.up hN.up).at_ hyl
          have hnd2 : g.1.getD y ((0, 0, 0), []) = ndOf g ((y : Int) + 1) := by unfold ndOf; rw [show ((y : Int) + 1).toNat - 1 = y from by omega]
          obtain ⟨nd, hnd⟩ : ∃ nd, nd = ndOf g ((y : Int) + 1) := ⟨_, rfl⟩
          rw [hnd2, ← hnd] at z0 z1 z2 hsl
          have hmem : nd ∈ g.1 := by rw [hnd]; exact ndOf_mem hin
          have hhd := HR.out.hd nd hmem
          have hl := okH_len hhd.1
          have hmp := HR.out.mp nd hmem
          obtain ⟨Af, cf, rfl⟩ := hsl.slice
          have hl16 : nd.2.length ≤ 16 := by omega
          obtain ⟨-, hrv, -, -, -⟩ := hsl.rv
          have HPT := Lib.hid (fun W => by
            have h1 := rptrs_any nd.1.1 nd.1.2.1 nd.1.2.2 hl.1 (by omega) hmp.1 hmp.2 W
            rw [ptk_pix hhd.2] at h1
            exact h1)
          have HND : Hid (ndOf g (o.getD x 0) = nd) := Lib.hid (by rw [hy, hnd])
          have HFV : Hid (∀ a, a < (pix nd).length → 0 ≤ nd.2.getD ((pix nd).getD a 0) 0 ∧ nd.2.getD ((pix nd).getD a 0) 0 ≤ g.1.length) := Lib.hid (fun a ha => by
            obtain ⟨h1, h2⟩ := pix_in ha
            exact ⟨(HR.out.fu nd hmem _ (getD_mem 0 h1)).1, HR.out.pt nd hmem _ h1 h2⟩)
          have HFL : Hid (∀ a, a < (pix nd).length → (pix nd).getD a 0 < nd.2.length) := Lib.hid (fun a ha => (pix_in ha).1)
          have HNB := Lib.hid hN
          have HRV := Lib.hid (fun W (k : Up wr W) => hrv.up k)
          have qGr := hN.bG.cell
          have lGr := hN.bG.lt
          have hlz := lt_of_cell z0
          have zo0 := fun b => Up.cell ((Up.refl wr).alloc b) z0
          have zo1 := fun b => Up.cell ((Up.refl wr).alloc b) z1
          have zo2 := fun b => Up.cell ((Up.refl wr).alloc b) z2
          have zo3 := fun b => Up.cell ((Up.refl wr).alloc b) z3
          have zoo := fun b => Up.cell ((Up.refl wr).alloc b) hco
          clear hN hmo hin hy hnd hnd2 hmem hhd hmp hsl hrv
          go_wp2_with (fail)
          go_region
          have k4 : Up wr (wr.alloc (.cells #[.int .i64 nd.1.1, .int .i64 nd.1.2.1, .int .u64 nd.1.2.2, .slice Af nd.2.length cf] 71)).drew := ((Up.refl wr).alloc _).drew
          have bN4 : Blk (wr.alloc (.cells #[.int .i64 nd.1.1, .int .i64 nd.1.2.1, .int .u64 nd.1.2.2, .slice Af nd.2.length cf] 71)).drew wr.heap.size 71 #[.int .i64 nd.1.1, .int .i64 nd.1.2.1, .int .u64 nd.1.2.2, .slice Af nd.2.length cf] := (Blk.new wr _ _).drew
          generalize (wr.alloc (.cells #[.int .i64 nd.1.1, .int .i64 nd.1.2.1, .int .u64 nd.1.2.2, .slice Af nd.2.length cf] 71)).drew = w4 at *
          have ke : Up w4 (w4.alloc (.cells #[] 67)) := (Up.refl w4).alloc _
          have bE := Blk.new w4 67 #[]
          have oE := own_empty (n₀ := w4.heap.size) (size := 1) bE (Nat.le_refl _)
          obtain ⟨v1, wa, hrun1, ho1, hga, -⟩ := run_any el_u64 (w := w4.alloc (.cells #[] 67)) 22 w4.heap.size 0 _ [] oE Af nd.2.length cf (nd.2.map (Value.int .u64)) (by rw [List.length_map]; omega) (HRV.out _ (k4.trans ke)) (one_ints _ _) (by omega) ke.size
          rw [Nat.zero_add, List.nil_append] at ho1
          have ka := up_own ke oE hga
          obtain ⟨AF, cF, rfl⟩ := own_slice ho1
          have bNa := bN4.up ka
          have hos := Lib.hid (own_le ho1 k4.size)
          have qN4 := bN4.cell
          have lN4 := bN4.lt
          have qNa := bNa.cell
          have lNa := bNa.lt
          have KA := Lib.hid (k4.trans ka)
          have BNA := Lib.hid bNa
          clear ho1 hga oE bE ke ka bN4 bNa zo0 zo1 zo2 zo3 zoo z0 z1 z2 z3 hco hlo hlz
          go_wp2_with (at_builtin; refine Lib.wpList_append_run _ rfl _ _ _ _ rfl _ _ rfl rfl _ _ hrun1 ?_)
          refine (HPT.out _).mono ?_
          rintro e w6 ⟨v8, rfl, hlo8, k6⟩
          have HST4 : Hid (Q4_ w wr o nd (.slice AF nd.2.length cF) (.slice Af nd.2.length cf) v8 wa.heap.size (.int .i64 ((0 : Nat) : Int)) w6) := Lib.hid ⟨0, Nat.zero_le _, rfl, by rw [fm_0]; exact own_up hos.out k6, KA.out.trans k6, BNA.out.up k6, hlo8⟩
          obtain ⟨pn, hpn⟩ : ∃ pn, (pix nd).length = pn := ⟨_, rfl⟩
          have hpn2 : pn ≤ 9223372036854775807 := by
            have h2 : (pix nd).length ≤ nd.2.length := by unfold pix; have := List.length_filter_le (fun (i : Nat) => isP nd (i : Int)) (List.range nd.2.length); simpa using this
            omega
          obtain ⟨A8, c8, e8⟩ := own_slice hlo8
          rw [hpn] at e8 HFV HFL
          subst e8
          have HPN := Lib.hid hpn
          clear hlo8 k6 qN4 lN4 qNa lNa hpn hrun1
          go_wp2_with (fail)
          go_loopw [11] (fun i w5 => Q4_ w wr o nd (.slice AF nd.2.length cF) (.slice Af nd.2.length cf) (.slice A8 pn c8) wa.heap.size i w5) (fun i _ => pn - (intOf i).toNat)
          case atStart => exact HST4.out
          case round =>
            rename World => w5
            obtain ⟨z, hz, rfl, ho, U, bN, hL⟩ := hrel
            rw [HPN.out] at hz
            by_cases hlz : z < pn
            · obtain ⟨gF, curF, rfl, hbF, hszF⟩ : ∃ gF curF, AF = some ⟨gF, 0, none⟩ ∧ Blk w5 gF 67 curF ∧ nd.2.length ≤ curF.size := by
                rcases ho.2 with ⟨_, q⟩ | ⟨gF, cF', curF, q, q1, q2, q3, _, q4, _⟩
                · have := HFL.out z hlz; omega
                · cases q; exact ⟨gF, curF, rfl, q2, by omega⟩
              have hfl := HFL.out z hlz
              obtain ⟨A9, c9, e9, hlat⟩ := loi_at hL
              obtain ⟨pp, e10, hcl⟩ := hlat w5 (Up.refl _) z (by rw [HPN.out]; exact hlz)
              rw [HPN.out] at e9
              cases e9
              subst e10
              have hlat2 := hlat
              obtain ⟨pi, hpi⟩ : ∃ pi, (pix nd).getD z 0 = pi := ⟨_, rfl⟩
              have hST := fm_step (o := o) (nd := nd) (y := z) (by rw [HPN.out]; exact hlz)
              have hAT := fm_at (o := o) (nd := nd) (y := z) (by rw [HPN.out]; exact hlz)
              rw [hpi] at hcl hfl hST hAT
              obtain ⟨fv, hfe⟩ : ∃ fv, nd.2.getD pi 0 = fv := ⟨_, rfl⟩
              rw [hfe] at hST hAT
              have hfv := HFV.out z hlz
              rw [hpi, hfe] at hfv
              have hcf : w5.cell? ⟨gF, pi, none⟩ = some (.int .u64 fv) := by
                obtain ⟨_, _, _, _, hrv⟩ := rv_of_own ho (by rw [List.length_map, fm_len]; omega)
                obtain ⟨p', e, hc⟩ := hrv.at_ (j := pi) (by rw [List.length_map, fm_len]; exact hfl)
                cases e
                rw [add_zero'] at hc
                rw [hc, List.getElem_map]
                have h2 : pi < (fm o nd z).length := by rw [fm_len]; exact hfl
                simp only [List.getD, List.getElem?_eq_getElem h2, Option.getD_some] at hAT
                rw [hAT]
              have hll := lt_of_cell hcl
              rw [block_of_add] at hll
              have hlf := hbF.lt
              have hwo : IntKind.i64.wrap fv = fv := by rw [IntKind.wrap_i64]; omega
              have hpb := pl_bd o fv
              have hon := HTD.out.len
              have hgn := HN.out
              have HPL := Lib.hid (rplace_any (.slice (some po) o.length co) o fv w5.drew (HNB.out.so.up U.drew).out)
              obtain ⟨q, hq⟩ : ∃ q, pl o fv = q := ⟨_, rfl⟩
              rw [hq] at hpb HPL hST
              have hwq1 : IntKind.i64.wrap q = q := by rw [IntKind.wrap_i64]; omega
              have hwq2 : IntKind.u64.wrap q = q := by rw [IntKind.wrap_u64]; omega
              have hgF : wr.heap.size ≤ gF := (World.ownsRow.lt ho gF (by simp [Value.ownBlock])).1
              have HST := Lib.hid hST
              have HLT := Lib.hid hlat2
              have HHO := Lib.hid ho
              have HU := Lib.hid U
              have HBN := Lib.hid bN
              have HL := Lib.hid hL
              have HBF := Lib.hid hbF
              clear hq hST hAT hpi hfe ho U bN hL hlat hlat2 hbF
              go_wp2_with (fail)
              go_region_with (go_at_call 57; (with_reducible refine HPL.out.mono ?_); rintro e w7 ⟨rfl, k7⟩; have K7 := Lib.hid ((Up.refl w5).drew.trans k7); have bF7 := HBF.out.up K7.out; have hcl7 := K7.out.cell hcl; have hll7 := K7.out.lt hll; have hcf7 := K7.out.cell hcf; have hff7 := bF7.frozen; have hlf7 := bF7.lt; have BF7 := Lib.hid bF7; clear k7 bF7)
              all_goals
                have HS8 : Hid (Q4_ w wr o nd (.slice (some ⟨gF, 0, none⟩) nd.2.length cF) (.slice Af nd.2.length cf) (.slice (some pp) pn c8) wa.heap.size (.int .i64 ((z + 1 : Nat) : Int)) (w7.setCell ⟨gF, pi, none⟩ (.int .u64 q))) := Lib.hid ⟨z + 1, by rw [HPN.out]; omega, rfl, by rw [HST.out, List.map_set]; exact (World.ownsRow.stored (own_up HHO.out K7.out) pi _).1, (HU.out.trans K7.out).setCell hgF _, (HBN.out.up K7.out).far (p := ⟨gF, pi, none⟩) ((HBN.out.up K7.out).ne_type BF7.out (by decide)) _, own_far (own_up HL.out K7.out) BF7.out (by decide) _ _⟩
                clear hcl hcf hcl7 hcf7
                go_wp2
                exact ⟨by have := HS8.out; push_cast at this; exact this, by simp [intOf]; omega⟩
            · obtain rfl : z = pn := by omega
              have hFA := fm_all o nd (y := z) (by rw [HPN.out])
              rw [hFA] at ho
              have kx : Up w5 (w5.alloc (.cells #[.int .i64 nd.1.1, .int .i64 nd.1.2.1, .int .u64 nd.1.2.2, .slice AF nd.2.length cF] 71)) := (Up.refl w5).alloc _
              have hN5 := HNB.out.upw U
              have hxs : x ≤ 1048576 := by have h1 := HTD.out.len; have h2 := HN.out; omega
              obtain ⟨v2, wb, hrun2, ho2, hgb, -⟩ := run_any el_node (w := w5.alloc (.cells #[.int .i64 nd.1.1, .int .i64 nd.1.2.1, .int .u64 nd.1.2.2, .slice AF nd.2.length cF] 71)) 27 w.heap.size x vn _ (own_up hN5.own kx) (some ⟨w5.heap.size, 0, none⟩) 1 1 [.int .i64 nd.1.1, .int .i64 nd.1.2.1, .int .u64 nd.1.2.2, .slice AF nd.2.length cF] rfl (rv_of_blk (Blk.new w5 _ _) (fun i u hi => by simpa using hi)) (by intro z hz; simp only [List.mem_cons, List.not_mem_nil, or_false] at hz; rcases hz with rfl | rfl | rfl | rfl <;> rfl) (by omega) (Nat.le_trans hN5.up.size kx.size)
              obtain ⟨A2, c2, rfl⟩ := own_slice ho2
              obtain ⟨hN6, hOb⟩ := HNB.out.fin (U.trans kx) hlx HND.out (own_up ho kx) ho2 hgb
              have HN6 := Lib.hid hN6
              have qO5 := hN5.bO.cell
              have lO5 := hN5.bO.lt
              have qN5 := bN.cell
              have lN5 := bN.lt
              have qOb := hOb.cell
              have fOb := hOb.frozen
              have lOb := hOb.lt
              clear hFA ho kx hN5 hN6 hOb ho2 hgb U bN hL
              go_wp2_with (at_builtin; refine Lib.wpList_append_run _ rfl _ _ _ _ rfl _ _ rfl rfl _ _ hrun2 ?_)
              exact ⟨⟨x + 1, _, _, by omega, by go_num, HN6.out⟩, by simp [intOf]; omega⟩
        · obtain rfl : x = o.length := by omega
          obtain ⟨An, cn, rfl⟩ := own_slice hN.own
          have HSB := Lib.hid hN.sb
          clear hN
          go_wp2_with (fail)
          go_loopw [12] (fun i wr => Q5_ g w (.slice A g.1.length c) (.slice B g.2.length d) o (.slice Ao o.length co) wo.heap.size (.slice An o.length cn) us i wr) (fun i _ => g.2.length - (intOf i).toNat)
          case atStart => exact ⟨0, _, _, Nat.zero_le _, rfl, HSB.out⟩
          case round =>
            rename World => wr
            obtain ⟨j, us2, vs, hj, rfl, hS⟩ := hrel
            have qG := hS.bG.cell
            have lG := hS.bG.lt
            by_cases hlt : j < g.2.length
            · obtain ⟨p, u2, rfl, hcu, hsu⟩ := (HRW.out.up hS.up).at_ hlt
              obtain ⟨Ar, cr, rfl⟩ := hsu.slice
              have hlp := lt_of_cell hcu
              rw [block_of_add] at hlp
              have HSU := Lib.hid (fun W (k : Up wr W) => hsu.up k)
              have hmx := hsu.max
              unfold maxLen at hmx
              have HCU := Lib.hid (fun W (k : Up wr W) => k.cell hcu)
              have HS := Lib.hid hS
              have hfl := flat_one g.2 hlt
              have hfl2 := flat_le g.2 (j + 1)
              have hfl3 := HF.out.h
              have hss := HF.out.s
              obtain ⟨row, hrow⟩ : ∃ row, g.2.getD j [] = row := ⟨_, rfl⟩
              rw [hrow] at HSU hmx HCU hcu hfl
              have HRO := Lib.hid hrow
              clear hrow hS hsu
              obtain ⟨ln, hln⟩ : ∃ ln, row.length = ln := ⟨_, rfl⟩
              rw [hln] at HSU hmx HCU hcu hfl
              have hln2 : ln ≤ 1099511627776 := by omega
              have HLN := Lib.hid hln
              clear hln hfl hfl2 hfl3
              go_wp2_with (fail)
              go_loopw [13, 14] (fun u i w5 => Q6_ o row wr u i w5) (fun _ i _ => ln - (intOf i).toNat)
              case atStart => exact ⟨0, Nat.zero_le _, rfl, World.ownsRow_nil _ _ _ _, Up.refl _⟩
              case round =>
                rename World => w5
                obtain ⟨x, hx, rfl, hu, U⟩ := hrel
                rw [HLN.out] at hx
                have hS5 := HS.out.upw U
                have qG5 := hS5.bG.cell
                have lG5 := hS5.bG.lt
                have hc5 := HCU.out w5 U
                have hlp5 := U.lt hlp
                by_cases hlx : x < ln
                · obtain ⟨pe, rfl, hce⟩ := (HSU.out w5 U).at_ hlx
                  have hle := lt_of_cell hce
                  rw [block_of_add] at hle
                  obtain ⟨h, hh⟩ : ∃ h, row.getD x 0 = h := ⟨_, rfl⟩
                  rw [hh] at hce
                  have HTK : Hid (row.take (x + 1) = row.take x ++ [h]) := Lib.hid (by
                    have hxr : x < row.length := by rw [HLN.out]; exact hlx
                    rw [List.take_succ_eq_append_getElem hxr, ← hh]
                    simp [List.getD, List.getElem?_eq_getElem hxr])
                  have hpb := pl_bd o h
                  have hon := HTD.out.len
                  have HPL := Lib.hid (rplace_any (.slice Ao o.length co) o h w5 hS5.so.out)
                  obtain ⟨q, hq⟩ : ∃ q, pl o h = q := ⟨_, rfl⟩
                  have HQ := Lib.hid hq
                  rw [hq] at hpb HPL
                  have hwq1 : IntKind.i64.wrap q = q := by rw [IntKind.wrap_i64]; omega
                  obtain ⟨Au, cu, rfl⟩ := own_slice hu
                  have HHU := Lib.hid hu
                  have HU := Lib.hid U
                  clear hu U hS5 hh hq
                  go_wp2_with (fail)
                  refine HPL.out.mono ?_
                  rintro e w7 ⟨rfl, K7⟩
                  have kx := K7.alloc (.cells #[.int .i64 q] 3)
                  obtain ⟨v2, wb, hrun2, hob, hgb, -⟩ := run_any el_int (w := w7.alloc (.cells #[.int .i64 q] 3)) 72 wr.heap.size x (.slice Au x cu) _ (own_up HHU.out kx) (some ⟨w7.heap.size, 0, none⟩) 1 1 [.int .i64 q] rfl (rv_of_blk (Blk.new w7 _ _) (fun i u hi => by simpa using hi)) (fun u hu => by rw [List.mem_singleton] at hu; subst hu; rfl) (by omega) (Nat.le_trans HU.out.size kx.size)
                  obtain ⟨A2, c2, rfl⟩ := own_slice hob
                  have HS9 : Hid (Q6_ o row wr (.slice A2 (x + 1) c2) (.int .i64 ((x + 1 : Nat) : Int)) wb) := Lib.hid ⟨x + 1, by rw [HLN.out]; omega, rfl, by
                    rw [HTK.out, List.map_append, List.map_append, show ([h].map (pl o)).map (Value.int .i64) = [.int .i64 q] from by rw [← HQ.out]; rfl]
                    exact hob, up_own (HU.out.trans kx) (own_up HHU.out kx) hgb⟩
                  clear hob hgb kx K7
                  go_wp2_with (at_builtin; refine Lib.wpList_append_run _ rfl _ _ _ _ rfl _ _ rfl rfl _ _ hrun2 ?_)
                  exact ⟨by have := HS9.out; push_cast at this; exact this, by simp [intOf]; omega⟩
                · obtain rfl : x = ln := by omega
                  rw [List.take_of_length_le (by rw [HLN.out]; exact Nat.le_refl _)] at hu
                  obtain ⟨Au, cu, rfl⟩ := own_slice hu
                  have kx : Up w5 (w5.alloc (.cells #[.slice Au x cu] 72)) := (Up.refl w5).alloc _
                  obtain ⟨v2, wb, hrun2, ho2, hgb, -⟩ := run_any el_row (w := w5.alloc (.cells #[.slice Au x cu] 72)) 28 w.heap.size j vs _ (own_up hS5.own kx) (some ⟨w5.heap.size, 0, none⟩) 1 1 [.slice Au x cu] rfl (rv_of_blk (Blk.new w5 _ _) (fun i u hi => by simpa using hi)) (fun u hu => by rw [List.mem_singleton] at hu; subst hu; rfl) (by omega) (Nat.le_trans hS5.up.size kx.size)
                  obtain ⟨A2, c2, rfl⟩ := own_slice ho2
                  obtain ⟨hS6, hOb⟩ := HS.out.fin (U.trans kx) hlt HRO.out (by rw [HLN.out]; exact own_up hu kx) ho2 hgb
                  have HS6 := Lib.hid hS6
                  have qO5 := hS5.bO.cell
                  have lO5 := hS5.bO.lt
                  have qOb := hOb.cell
                  have fOb := hOb.frozen
                  have lOb := hOb.lt
                  clear hu kx hS5 hS6 hOb ho2 hgb U
                  go_wp2_with (at_builtin; refine Lib.wpList_append_run _ rfl _ _ _ _ rfl _ _ rfl rfl _ _ hrun2 ?_)
                  exact ⟨⟨j + 1, _, _, by omega, by go_num, HS6.out⟩, by simp [intOf]; omega⟩
            · obtain rfl : j = g.2.length := by omega
              obtain ⟨As, cs, rfl⟩ := own_slice hS.own
              have hgr := fun {w' : World} => hS.gr HO.out.symm (w' := w')
              have HGR : Hid (∀ {w' : World}, (∀ b t cs, t ≠ 30 → Blk wr b t cs → Blk w' b t cs) → GrV w' (.agg #[.slice An o.length cn, .slice As g.2.length cs]) (canon g)) := Lib.hid hgr
              have qO := hS.bO.cell
              have lO := hS.bO.lt
              have qR := hS.bR.cell
              have fR := hS.bR.frozen
              have lR := hS.bR.lt
              have hRC := hS.bR
              have HU := Lib.hid hS.up
              clear hS hgr
              go_wp2_with (fail)
              have HBX : Blk ((wr.setCell ⟨w.heap.size + 1, 0, none⟩ (.slice An o.length cn)).setCell ⟨w.heap.size + 1, 1, none⟩ (.slice As g.2.length cs)) (w.heap.size + 1) 30 #[.slice An o.length cn, .slice As g.2.length cs] := by
                have := (hRC.set_ 0 (Value.slice An o.length cn)).set_ 1 (Value.slice As g.2.length cs)
                simpa using this
              refine bodyPost_ret (results_cell_row rfl _ _ (w.heap.size + 1) 30 _ _ _ rfl HBX Tryz.underlying30 rfl (by kernel_rfl)) rfl ?_
              refine ⟨_, rfl, HGR.out (fun b t cs ht hb => ?_), (HU.out.setCell (by simp) _).setCell (by simp) _⟩
              have h1 := hb.far (p := ⟨w.heap.size + 1, 0, none⟩) (hb.ne_type hRC ht) (.slice An o.length cn)
              exact h1.far (p := ⟨w.heap.size + 1, 1, none⟩) (hb.ne_type hRC ht) _

end Go.Proofs.YtanhhkdoejnpiaaGreat.G
