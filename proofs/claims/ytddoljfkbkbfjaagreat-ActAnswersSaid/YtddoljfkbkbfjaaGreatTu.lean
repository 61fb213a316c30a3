/- An operation is done (act's step: act): contract. -/
import Derived.Test.YtddoljfkbkbfjaaGreatTt
import Derived.Deep.CutRange
import Derived.BigRegion
namespace Go.Proofs.YtddoljfkbkbfjaaGreat.T
open G
open Go.Joins Go.ChangeShapes Go.WideShapes Go.ChangeAt Go.RowKit Go.Deep Go.Shelf Go.Maps
set_option linter.unusedVariables false
set_option linter.unusedSimpArgs false
section
variable {base D T : Nat} {S3 : List Nat} {h : Hp} {j : Nat} {o o0 : Op} {s : Ks} {w wz : World} {t : Th}
theorem post_ret {P : Program} {fn : Func} {R : Ending → World → Prop} {a : Act} {w : World} (hr : fn.results = #[]) (hd : a.defers = []) (h : R (.returned (.tuple #[])) w) : bodyPost P fn R .ret a w :=
  ⟨hd, .tuple #[], by simp [results, hr], h⟩
/-- What holds where something has refused. -/
def AtRef (D : Nat) (Ψ : Int → World → Prop) (a' : Act) (w' : World) : Prop :=
  ∃ (x : Int) (u1 u2 u3 u5 u6 u7 u8 u9 u10 u11 u12 u13 u14 u15 u16 u17 u18 u19 u20 u21 u22 u23 u24 u25 u26 u27 u28 u29 u30 u31 u32 u33 : Value), a' = { tmps := #[.pointer (some ⟨D, 0, none⟩), u1, u2, u3, .int .i64 x, u5, u6, u7, u8, u9, u10, u11, u12, u13, u14, u15, u16, u17, u18, u19, u20, u21, u22, u23, u24, u25, u26, u27, u28, u29, u30, u31, u32, u33, undef, undef, undef, undef, undef, undef, undef, undef, undef, undef, undef, undef, undef, undef, undef, undef, undef, undef], defers := [] } ∧ Ψ x w'
theorem look_any {w : World} {M n D B : Nat} {Dm : DataW Value} {kd : Int} (h : OwnF w M n Dm) (hi : I64 kd) (hk : ∀ kd, ∃ v, got Dm kd v ∧ Kat w D B kd v) : ∃ u b, (Instr.lookup 112 (.map (some M)) (.int .i64 kd) true).run Tryz.prog w = .ok (.tuple #[u, .bool b]) w ∧ ((b = false ∧ (kd < 1 ∨ 11 < kd)) ∨ (b = true ∧ ∃ cs G, krow D B kd = some cs ∧ u = .slice (some ⟨G, 0, none⟩) cs.length cs.length ∧ Blk w G 114 (cs.map cv3).toArray)) := by
  cases hn : krow D B kd with
  | none => obtain ⟨u, h1⟩ := look_none h hi hk hn; exact ⟨u, false, h1, .inl ⟨rfl, krow_none hn⟩⟩
  | some cs => obtain ⟨G, h1, h2⟩ := look_some h hi hk hn; exact ⟨_, true, h1, .inr ⟨rfl, cs, G, rfl, rfl, h2⟩⟩
/-- What kinds is asked for. -/
def Row3 (D : Nat) (kd : Int) (w : World) (v5 v6 : Value) (wx : World) : Prop := Up w wx ∧ ((v6 = .bool false ∧ (kd < 1 ∨ 11 < kd)) ∨ (v6 = .bool true ∧ ∃ B cs G, krow D B kd = some cs ∧ v5 = .slice (some ⟨G, 0, none⟩) cs.length cs.length ∧ Blk wx G 114 (cs.map cv3).toArray ∧ Blk wx B 74 #[.pointer (some ⟨D, 0, none⟩)]))
def LoopRel (D T : Nat) (Φ : Int → World → Prop) (cs : List Clo3) (w : World) (i : Value) (wr : World) : Prop := ∃ n : Nat, n ≤ cs.length ∧ i = .int .i64 n ∧ Kp [D, T] w wr ∧ Run3 D T Φ (cs.drop n) wr
theorem deed_kd (h : Hp) (j : Nat) (t : Th) (hk : o.kd < 1 ∨ 11 < o.kd) : deed h j t o = (1, h, 0, false) := by
  unfold deed
  rw [if_neg (by omega), if_neg (by omega), if_neg (by omega), if_neg (by omega), if_neg (by omega), if_neg (by omega), if_neg (by omega), if_neg (by omega), if_neg (by omega)]
set_option maxRecDepth 100000 in
set_option maxHeartbeats 4000000 in
theorem act_any (hS : St base D T S3 h j o0 ks0 w) (k : Dk h j t o) (hi : I64 o.kd) (hdn : (t.dn.length + 1) * 24 ≤ 140737488355328) (hod : (h.od.length + 1) * 8 ≤ 140737488355328) (hbase : base ≤ w.heap.size) :
    Calls Tryz.prog 26 #[.pointer (some ⟨D, 0, none⟩), opv o] w fun en w' => (∃ v, en = .returned v) ∧ Kp (D :: T :: S3) w w' ∧ Fin base D (doH h j t o) w' := by
  have HS := Lib.hid hS
  have HK := Lib.hid k
  have HB := Lib.hid (And.intro hdn (And.intro hod hbase))
  obtain ⟨us, P, Q, c, d, A, co, cT, hD, hT, hc1, hc2, hbD, hbT, hR⟩ := id hS
  generalize hW : w.alloc (.cells #[.int .i64 o.kd, .int .i64 o.h, .int .i64 o.i, .int .i64 o.k, .int .u64 o.v, .int .i64 o.t, .int .i64 o.l, .int .u64 o.m] 62) = W
  have UW : Up w W := by rw [← hW]; exact (Up.refl w).alloc _
  have bO : Blk W w.heap.size 62 #[.int .i64 o.kd, .int .i64 o.h, .int .i64 o.i, .int .i64 o.k, .int .u64 o.v, .int .i64 o.t, .int .i64 o.l, .int .u64 o.m] := by rw [← hW]; exact Blk.new _ _ _
  have HW := Lib.hid hW
  have HUW := Lib.hid UW
  have HBO := Lib.hid bO
  have hDW := hD.up UW
  have HDT : Hid (D ≠ T) := Lib.hid (hD.ne_type hT (by decide))
  have dc := hDW.cell
  unfold stc at dc
  have dl := hDW.lt
  have df := hDW.frozen
  have bc := bO.cell
  have bl := bO.lt
  have HDW := Lib.hid hDW
  clear hS k hdn hod hbase hD hT hc1 hc2 hbD hbT hR UW bO hDW hW
  unfold opv
  go_enter Tryz.func26, Tryz.ntmps26
  go_wp2
  rw [HW.out]
  refine wp_scope_jumps 0 (AtRef D (fun x w' => x ≠ 0 ∧ Kp [D, T] w w' ∧ Phi base D T S3 h j t o x w')) (fun _ _ => 0) rfl ?_ ?_
  · go_upto_region 3 with fail
    obtain ⟨hk2, hs2⟩ := (HS.out.up HUW.out).op (Up.refl W) o
    have hb2 := HBO.out.kp hk2 (by have := HS.out.lt D (by simp); have := HS.out.lt T (by simp); simp; omega)
    generalize ((((((((W.setCell ⟨D, 19, none⟩ (.int .i64 o.kd)).setCell ⟨D, 20, none⟩ (.int .i64 o.h)).setCell ⟨D, 21, none⟩ (.int .i64 o.i)).setCell ⟨D, 22, none⟩ (.int .i64 o.k)).setCell ⟨D, 23, none⟩ (.int .u64 o.v)).setCell ⟨D, 24, none⟩ (.int .i64 o.t)).setCell ⟨D, 25, none⟩ (.int .i64 o.l)).setCell ⟨D, 26, none⟩ (.int .u64 o.m)) = w2 at *
    have HK2 := Lib.hid hk2
    have HS2 := Lib.hid hs2
    have HB2 := Lib.hid hb2
    have hb2d := hb2.drew
    have b2c := hb2d.cell
    have b2l := hb2d.lt
    have HKD := Lib.hid (kinds_any D w2.drew)
    clear dc dl df bc bl hk2 hs2 hb2
    go_cut [5, 6] from 13 to 20 (fun v5 v6 wx => Row3 D o.kd w2 v5 v6 wx)
    case first =>
      go_region_with (go_at_call 54; (refine HKD.out.mono ?_); rintro e wk ⟨M, nM, Dm, B, rfl, hOm, hUk, hBk, hkk⟩; obtain ⟨u, b, hlook, hrel⟩ := look_any hOm hi hkk; have HBk := hb2d.up hUk; have oc2 := HBk.cell; have ol2 := HBk.lt)
      all_goals
        go_wp2_with (fail)
        go_meet
        refine ⟨(Up.refl w2).drew.trans hUk, ?_⟩
        rcases hrel with ⟨rfl, q⟩ | ⟨rfl, cs, G, q1, rfl, q2⟩
        · exact .inl ⟨rfl, q⟩
        · exact .inr ⟨rfl, B, cs, G, q1, rfl, q2, hBk⟩
    case rest =>
      obtain ⟨hu, q⟩ := hcut
      rename World => w3
      have HS3 := Lib.hid (HS2.out.up hu)
      have HK3 := Lib.hid (((Kp.of_up HUW.out).trans HK2.out).up hu)
      clear hu b2c b2l hb2d
      rcases q with ⟨rfl, q⟩ | ⟨rfl, B, cs, G, hkr, rfl, hG, hB⟩
      · have HQ := Lib.hid q
        clear q
        go_wp2_with (fail)
        go_step3
        refine ⟨rfl, 1, _, _, _, _, _, _, _, _, _, _, _, _, _, _, _, _, _, _, _, _, _, _, _, _, _, _, _, _, _, _, _, _, rfl, by decide, HK3.out, ?_⟩
        exact phi_of (deed_kd h j t HQ.out) HS3.out (fun q => by cases q)
      · have HG := Lib.hid hG
        have HKR := Lib.hid hkr
        have hDn3 : G ∉ [D, T] ∧ B ∉ [D, T] := by
          obtain ⟨us3, P3, Q3, c3, d3, A3, co3, cT3, hD3, hT3, -⟩ := HS3.out
          have e1 := hG.ne_type hD3 (by decide)
          have e2 := hG.ne_type hT3 (by decide)
          have e3 := hB.ne_type hD3 (by decide)
          have e4 := hB.ne_type hT3 (by decide)
          simp [e1, e2, e3, e4]
        have HGN := Lib.hid hDn3.1
        have HRUN := Lib.hid (run_kd HK.out HS3.out hB hDn3.2 hkr)
        clear hDn3
        have hcl := krow_len hkr
        clear hG hkr hB
        go_wp2_with (fail)
        go_loopw [25] (fun i wr => LoopRel D T (Phi base D T S3 h j t o) cs w3 i wr) (fun i _ => cs.length - (intOf i).toNat)
        case atStart => exact ⟨0, Nat.zero_le _, rfl, Kp.refl _ _, HRUN.out⟩
        case round =>
          obtain ⟨n, hn, rfl, hk, hr⟩ := hrel
          have HKR2 := Lib.hid hk
          have hnT : G ∉ [D, T] := HGN.out
          by_cases hlt : n < cs.length
          · rw [List.drop_eq_getElem_cons hlt] at hr
            have hcell := (HG.out.kp hk hnT).cell n
            rw [show (cs.map cv3).toArray[n]? = some (cv3 cs[n]) from by simp [hlt]] at hcell
            obtain ⟨⟨f, args, caps⟩, hf⟩ : ∃ c, cs[n] = c := ⟨_, rfl⟩
            rw [hf] at hr hcell
            have HC := Lib.hid (hr.2 _ (Up.refl _))
            have hent := hr.1
            clear hf hr hk hnT
            simp only [cv3] at hcell HC hent
            go_wp2_with (fail)
            refine HC.out.mono ?_
            rintro e w4 ⟨x, rfl, hk1, hx, hn1⟩
            by_cases e : x = 0
            · subst e
              have HNX := Lib.hid (hn1 rfl)
              have HK1 := Lib.hid hk1
              clear hx hn1 hk1
              go_wp2_with (fail)
              refine ⟨⟨n + 1, by omega, by go_num, HKR2.out.trans HK1.out, HNX.out⟩, by simp [intOf]; omega⟩
            · have HX := Lib.hid (hx e)
              have HX0 := Lib.hid e
              have hb : (x != 0) = true := bne_iff_ne.mpr e
              have HK1 := Lib.hid hk1
              clear hx hn1 e hk1
              go_wp2_with (fail)
              go_step3
              refine ⟨rfl, x, _, _, _, _, _, _, _, _, _, _, _, _, _, _, _, _, _, _, _, _, _, _, _, _, _, _, _, _, _, _, _, _, rfl, HX0.out, (HK3.out.trans HKR2.out).trans HK1.out, HX.out⟩
          · obtain rfl : n = cs.length := by omega
            rw [List.drop_eq_nil_of_le (Nat.le_refl _)] at hr
            have HPH := Lib.hid hr
            clear hr hk
            have hph := HPH.out
            obtain ⟨hp0, s1, hs1, hz⟩ := hph
            obtain ⟨z1, z2, z3⟩ := hz rfl
            have HS5 := Lib.hid hs1
            obtain ⟨us5, P5, Q5, c5, d5, A5, co5, cT5, hD5, -⟩ := hs1
            have d5c := hD5.cell
            unfold stc at d5c
            have d5l := hD5.lt
            have HZ := Lib.hid (And.intro hp0 (And.intro z1 (And.intro z2 z3)))
            clear hp0 z1 z2 z3 hz hD5 hnT hlt hn
            obtain ⟨hod1, t1, ht1, hdn1, hlf1⟩ := deed_th HK.out.ht o
            have HT1 := Lib.hid ht1
            have HKW := Lib.hid ((HK3.out.trans HKR2.out))
            have HAN := Lib.hid (answer_st HS5.out ht1 (s1.e, s1.w, s1.y) (by rw [hdn1]; exact HB.out.1) (by rw [hod1]; exact HB.out.2.1) (Nat.le_trans HB.out.2.2 HKW.out.size))
            clear hod1 ht1 hdn1 hlf1
            go_wp2_with (fail)
            refine HAN.out.mono ?_
            rintro e w5 ⟨⟨v, rfl⟩, hk5, hf5⟩
            have HK5 := Lib.hid hk5
            have HF5 := Lib.hid hf5
            clear hk5 hf5
            go_wp2_with (fail)
            (try simp only [Exit.jump])
            refine post_ret (by kernel_rfl) rfl ⟨⟨_, rfl⟩, (HKW.out.mono (by simp)).trans HK5.out, ?_⟩
            obtain ⟨y0, y1, y2, y3⟩ := HZ.out
            have q := HF5.out
            rw [doH_eq HT1.out, if_neg (by omega)]
            rw [y1, y2, y3] at q
            rw [← y0]
            exact q
  · rintro a' wr ⟨x, u1, u2, u3, u5, u6, u7, u8, u9, u10, u11, u12, u13, u14, u15, u16, u17, u18, u19, u20, u21, u22, u23, u24, u25, u26, u27, u28, u29, u30, u31, u32, u33, rfl, hx0, hk, hphi⟩
    have HX0 := Lib.hid hx0
    have HKR := Lib.hid hk
    obtain ⟨hp1, s1, hs1, -⟩ := hphi
    have HP1 := Lib.hid hp1
    have HS5 := Lib.hid hs1
    obtain ⟨us5, P5, Q5, c5, d5, A5, co5, cT5, hD5, hT5, -, -, -, -, hR5⟩ := hs1
    have d5c := hD5.cell
    unfold stc at d5c
    have d5l := hD5.lt
    have t5l := hT5.lt
    have t5f := hT5.frozen
    obtain ⟨hod1, t1, ht1, hdn1, hlf1⟩ := deed_th HK.out.ht o
    have HT1 := Lib.hid ht1
    have HDN := Lib.hid (And.intro hod1 hdn1)
    obtain ⟨u, hu, -⟩ := hR5.at_ ht1
    obtain ⟨c0, c1, c2, c3, c4, c5', c6, c7⟩ := tcs hT5 hu
    clear hx0 hk hp1 hD5 hT5 hR5 hod1 ht1 hdn1 hlf1 hu
    by_cases e : x = 11
    · have HE := Lib.hid e
      subst e
      go_wp2_with (fail)
      (try simp only [Exit.jump])
      obtain ⟨k6, s6⟩ := HS5.out.want (Up.refl _) HT1.out
      refine post_ret (by kernel_rfl) rfl ⟨⟨_, rfl⟩, (HKR.out.trans k6).mono (by simp), ?_⟩
      rw [doH_eq HT1.out, if_pos HP1.out.symm]
      exact s6.fin
    · have hb : (x == 11) = false := beq_eq_false_iff_ne.mpr e
      have HE := Lib.hid e
      have HAN := Lib.hid (answer_st HS5.out HT1.out (x, 0, false) (by rw [HDN.out.2]; exact HB.out.1) (by rw [HDN.out.1]; exact HB.out.2.1) (Nat.le_trans HB.out.2.2 HKR.out.size))
      clear e
      go_wp2_with (fail)
      refine HAN.out.mono ?_
      rintro e w5 ⟨⟨v, rfl⟩, hk5, hf5⟩
      have HK5 := Lib.hid hk5
      have HF5 := Lib.hid hf5
      clear hk5 hf5
      go_wp2_with (fail)
      (try simp only [Exit.jump])
      refine post_void (by kernel_rfl) rfl ⟨⟨_, rfl⟩, (HKR.out.mono (by simp)).trans HK5.out, ?_⟩
      have q := HF5.out
      have hd2 := deed_bad h j t o (by rw [← HP1.out]; exact HX0.out)
      rw [doH_eq HT1.out, if_neg (by rw [← HP1.out]; exact HE.out), hd2, ← HP1.out]
      exact q
end
end Go.Proofs.YtddoljfkbkbfjaaGreat.T
