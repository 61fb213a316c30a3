/- Which heaps are right to the document (dovecoteref17.Right), and few: contracts. -/
import Derived.Test.YtddoljfkbkbfjaaGreatWb
import Derived.Test.YtddoljfkbkbfjaaGreatAm
namespace Go.Proofs.YtddoljfkbkbfjaaGreat.T
open G
open Go.Joins Go.ChangeShapes Go.WideShapes Go.ChangeAt Go.RowKit Go.Deep Go.Shelf Go.Maps
set_option linter.unusedVariables false
set_option linter.unusedSimpArgs false

/-- A thread of a right heap. -/
def thG (fa : Int) (t : Th) : Prop := ((t.ba = 0 ∧ t.be = 0) ∨ (0 ≤ t.ba ∧ t.ba ≤ t.be ∧ t.be ≤ fa)) ∧ t.pd.length ≤ 1
/-- A right heap. -/
structure RgP (N : Int) (n0 n1 : Nat) (h : Hp) : Prop where
  m : rt N n0 n1 = true
  f : rgb h.fs h.fa h.fl = true
  t : rgb h.ts h.ta h.tl = true
  ne : h.fs ≠ h.ts
  fl : h.fl = N
  tl : h.tl = N
  sz0 : 0 ≤ h.sz
  sz1 : h.sz ≤ 4096
  lg0 : 1 ≤ h.lg
  lg1 : h.lg ≤ 64
  n0 : 1 ≤ h.th.length
  n1 : h.th.length ≤ 4
  th : ∀ x ∈ h.th, thG h.fa x
  ph0 : 0 ≤ h.ph
  ph1 : h.ph ≤ 2
  sc0 : 0 ≤ h.sc
  sc1 : h.sc ≤ h.ta
open Classical in
noncomputable def rgH (N : Int) (n0 n1 : Nat) (h : Hp) : Bool := decide (RgP N n0 n1 h)
theorem rgH_yes {N : Int} {n0 n1 : Nat} {h : Hp} (k : RgP N n0 n1 h) : rgH N n0 n1 h = true := by unfold rgH; exact @decide_eq_true _ (Classical.propDecidable _) k
theorem rgH_no {N : Int} {n0 n1 : Nat} {h : Hp} (k : ¬ RgP N n0 n1 h) : rgH N n0 n1 h = false := by unfold rgH; exact @decide_eq_false _ (Classical.propDecidable _) k
theorem rgH_of {N : Int} {n0 n1 : Nat} {h : Hp} (k : rgH N n0 n1 h = true) : RgP N n0 n1 h := by unfold rgH at k; exact @of_decide_eq_true _ (Classical.propDecidable _) k
theorem cons_i {a b : Int} : ((a : Int) == b) = decide (a = b) := by by_cases q : a = b <;> simp [q]
/-- So many threads are right. -/
def RRel (w : World) (h : Hp) (n : Nat) (i : Value) (wr : World) : Prop := ∃ x : Nat, x ≤ n ∧ i = .int .i64 x ∧ Up w wr ∧ ∀ (j : Nat) t, j < x → h.th[j]? = some t → thG h.fa t
set_option maxRecDepth 100000 in
set_option maxHeartbeats 16000000 in
theorem rright_any (h : Hp) (N : Int) (A0 A1 : Option Addr) (n0 n1 c0 c1 : Nat) (vt vo : Value) (us : List Tv) (w : World) (hvt : Rc tvc w vt us) (hr : ThsR w us h.th) (ho : Rc inc w vo h.od) :
    Calls Tryz.prog 12 #[.agg #[.int .i64 N, .slice A0 n0 c0, .slice A1 n1 c1, .int .i64 h.fs, .int .i64 h.fa, .int .i64 h.fl, .int .i64 h.ts, .int .i64 h.ta, .int .i64 h.tl, .int .i64 h.sz, .int .i64 h.lg, vt, .int .i64 h.ph, .int .i64 h.sc, .int .i64 h.fp, vo, .int .i64 h.bk]] w fun e w' => e = .returned (.bool (rgH N n0 n1 h)) ∧ Up w w' := by
  have HM := Lib.hid (fun W => rmright_any N A0 A1 n0 n1 c0 c1 W)
  have HF := Lib.hid (fun W => rright h.fs h.fa h.fl W)
  have HT := Lib.hid (fun W => rright h.ts h.ta h.tl W)
  have l1 := hr.1
  have HX := Lib.hid (fun W (k : Up w W) => hvt.up k)
  have HTH := Lib.hid (fun W (k : Up w W) x (hx : x < h.th.length) => (show ∃ u t, us[x]? = some u ∧ h.th[x]? = some t ∧ ThR W u t from by
    obtain ⟨u, e1, r1⟩ := hr.at_ (List.getElem?_eq_getElem hx)
    exact ⟨u, _, e1, List.getElem?_eq_getElem hx, r1.up k⟩))
  obtain ⟨A, ct, rfl⟩ := hvt.slice
  obtain ⟨B, co, rfl⟩ := ho.slice
  have hm := hvt.max
  rw [l1] at HX hm ⊢
  have hn63 : h.th.length ≤ 9223372036854775807 := by unfold maxLen at hm; omega
  obtain ⟨r, hr0⟩ : ∃ r, rgH N n0 n1 h = r := ⟨_, rfl⟩
  rw [hr0]
  have HR := Lib.hid hr0
  have HNO := Lib.hid (fun (k : ¬ RgP N n0 n1 h) => (show r = false from by rw [← hr0]; exact rgH_no k))
  have HYES := Lib.hid (fun (k : RgP N n0 n1 h) => (show r = true from by rw [← hr0]; exact rgH_yes k))
  obtain ⟨xm, hxm⟩ : ∃ b, rt N n0 n1 = b := ⟨_, rfl⟩
  obtain ⟨xf, hxf⟩ : ∃ b, rgb h.fs h.fa h.fl = b := ⟨_, rfl⟩
  obtain ⟨xt, hxt⟩ : ∃ b, rgb h.ts h.ta h.tl = b := ⟨_, rfl⟩
  rw [hxm] at HM
  rw [hxf] at HF
  rw [hxt] at HT
  have HXM := Lib.hid hxm
  have HXF := Lib.hid hxf
  have HXT := Lib.hid hxt
  clear hvt hr ho hm l1 hr0 hxm hxf hxt
  generalize hn : h.th.length = n at *
  have HN := Lib.hid hn
  clear hn
  generalize h.od.length = no at *
  unfold bv at HF HT
  go_enter Tryz.func12, Tryz.ntmps12
  go_wp2_with (fail)
  refine calls_at (fun V1 hV => ?_)
  have kv : Up w V1 := by rw [hV]; (repeat (first | with_reducible exact Up.refl _ | with_reducible refine Up.alloc ?_ _ | with_reducible refine Up.drew ?_ | refine Up.setCell ?_ (by simp <;> omega) _))
  have bHv : Blk V1 (w.heap.size) 32 #[.int .i64 N, .slice A0 n0 c0, .slice A1 n1 c1, .int .i64 h.fs, .int .i64 h.fa, .int .i64 h.fl, .int .i64 h.ts, .int .i64 h.ta, .int .i64 h.tl, .int .i64 h.sz, .int .i64 h.lg, .slice A n ct, .int .i64 h.ph, .int .i64 h.sc, .int .i64 h.fp, .slice B no co, .int .i64 h.bk] := by rw [hV]; (repeat (first | with_reducible exact Blk.new' _ (by simp) _ _ | with_reducible refine Blk.alloc ?_ _ | with_reducible refine Blk.drew ?_ | refine Blk.far ?_ (by simp <;> omega) _))
  have Uv : Up w V1 := kv
  clear hV kv 
  refine (HM.out V1).mono ?_
  rintro e w1 ⟨rfl, k1⟩
  have bH1 := bHv.up k1
  have U1 := Uv.trans k1
  clear k1 Uv bHv 
  have bH1c := bH1.cell
  have bH1f := bH1.frozen
  have bH1l := bH1.lt
  go_wp2_with (fail)
  refine calls_at (fun V2 hV => ?_)
  have kv : Up w1 V2 := by rw [hV]; (repeat (first | with_reducible exact Up.refl _ | with_reducible refine Up.alloc ?_ _ | with_reducible refine Up.drew ?_ | refine Up.setCell ?_ (by simp <;> omega) _))
  have bHv := bH1.up kv
  have Uv : Up w V2 := U1.trans kv
  clear hV kv bH1 bH1c bH1f bH1l U1
  refine (HF.out V2).mono ?_
  rintro e w2 ⟨rfl, k2⟩
  have bH2 := bHv.up k2
  have U2 := Uv.trans k2
  clear k2 Uv bHv 
  have bH2c := bH2.cell
  have bH2f := bH2.frozen
  have bH2l := bH2.lt
  go_wp2_with (fail)
  refine calls_at (fun V3 hV => ?_)
  have kv : Up w2 V3 := by rw [hV]; (repeat (first | with_reducible exact Up.refl _ | with_reducible refine Up.alloc ?_ _ | with_reducible refine Up.drew ?_ | refine Up.setCell ?_ (by simp <;> omega) _))
  have bHv := bH2.up kv
  have Uv : Up w V3 := U2.trans kv
  clear hV kv bH2 bH2c bH2f bH2l U2
  refine (HT.out V3).mono ?_
  rintro e w3 ⟨rfl, k3⟩
  have bH3 := bHv.up k3
  have U3 := Uv.trans k3
  clear k3 Uv bHv 
  have bH3c := bH3.cell
  have bH3f := bH3.frozen
  have bH3l := bH3.lt
  have HU3 := Lib.hid U3
  have HBH := Lib.hid bH3
  by_cases q : xm = false
  · subst q
    have HV := Lib.hid (HNO.out (fun z => by have := z.m; rw [HXM.out] at this; cases this))
    (try clear q)
    go_wp2_with (fail)
    go_ret
    exact ⟨by rw [HV.out]; rfl, by (repeat (first | with_reducible exact HU3.out | with_reducible refine Up.alloc ?_ _ | with_reducible refine Up.drew ?_ | with_reducible refine Up.drewN ?_ _))⟩
  obtain rfl : xm = true := by simpa using q
  clear q
  by_cases q : xf = false
  · subst q
    have HV := Lib.hid (HNO.out (fun z => by have := z.f; rw [HXF.out] at this; cases this))
    (try clear q)
    go_wp2_with (fail)
    go_ret
    exact ⟨by rw [HV.out]; rfl, by (repeat (first | with_reducible exact HU3.out | with_reducible refine Up.alloc ?_ _ | with_reducible refine Up.drew ?_ | with_reducible refine Up.drewN ?_ _))⟩
  obtain rfl : xf = true := by simpa using q
  clear q
  by_cases q : xt = false
  · subst q
    have HV := Lib.hid (HNO.out (fun z => by have := z.t; rw [HXT.out] at this; cases this))
    (try clear q)
    go_wp2_with (fail)
    go_ret
    exact ⟨by rw [HV.out]; rfl, by (repeat (first | with_reducible exact HU3.out | with_reducible refine Up.alloc ?_ _ | with_reducible refine Up.drew ?_ | with_reducible refine Up.drewN ?_ _))⟩
  obtain rfl : xt = true := by simpa using q
  clear q
  by_cases q : h.fs = h.ts
  · have b4 : (h.fs == h.ts) = true := beq_iff_eq.2 q
    have HV := Lib.hid (HNO.out (fun z => z.ne q))
    (try clear q)
    go_wp2_with (fail)
    go_ret
    exact ⟨by rw [HV.out]; rfl, by (repeat (first | with_reducible exact HU3.out | with_reducible refine Up.alloc ?_ _ | with_reducible refine Up.drew ?_ | with_reducible refine Up.drewN ?_ _))⟩
  have b4 : (h.fs == h.ts) = false := beq_eq_false_iff_ne.mpr q
  have HQa3 := Lib.hid q
  clear q
  by_cases q : h.fl ≠ N
  · have b5 : (h.fl != N) = true := bne_iff_ne.2 q
    have HV := Lib.hid (HNO.out (fun z => q z.fl))
    (try clear q)
    go_wp2_with (fail)
    go_ret
    exact ⟨by rw [HV.out]; rfl, by (repeat (first | with_reducible exact HU3.out | with_reducible refine Up.alloc ?_ _ | with_reducible refine Up.drew ?_ | with_reducible refine Up.drewN ?_ _))⟩
  have b5 : (h.fl != N) = false := by simpa using q
  have HQa4 := Lib.hid q
  clear q
  by_cases q : h.tl ≠ N
  · have b6 : (h.tl != N) = true := bne_iff_ne.2 q
    have HV := Lib.hid (HNO.out (fun z => q z.tl))
    (try clear q)
    go_wp2_with (fail)
    go_ret
    exact ⟨by rw [HV.out]; rfl, by (repeat (first | with_reducible exact HU3.out | with_reducible refine Up.alloc ?_ _ | with_reducible refine Up.drew ?_ | with_reducible refine Up.drewN ?_ _))⟩
  have b6 : (h.tl != N) = false := by simpa using q
  have HQa5 := Lib.hid q
  clear q
  by_cases q : h.sz < 0
  · have d1 : decide (h.sz < 0) = true := decide_eq_true q
    have HV := Lib.hid (HNO.out (fun z => by have := z.sz0; omega))
    (try clear q)
    go_wp2_with (fail)
    go_ret
    exact ⟨by rw [HV.out]; rfl, by (repeat (first | with_reducible exact HU3.out | with_reducible refine Up.alloc ?_ _ | with_reducible refine Up.drew ?_ | with_reducible refine Up.drewN ?_ _))⟩
  have d1 : decide (h.sz < 0) = false := decide_eq_false q
  have HQa6 := Lib.hid q
  clear q
  by_cases q : 4096 < h.sz
  · have d2 : decide (4096 < h.sz) = true := decide_eq_true q
    have HV := Lib.hid (HNO.out (fun z => by have := z.sz1; omega))
    (try clear q)
    go_wp2_with (fail)
    go_ret
    exact ⟨by rw [HV.out]; rfl, by (repeat (first | with_reducible exact HU3.out | with_reducible refine Up.alloc ?_ _ | with_reducible refine Up.drew ?_ | with_reducible refine Up.drewN ?_ _))⟩
  have d2 : decide (4096 < h.sz) = false := decide_eq_false q
  have HQa7 := Lib.hid q
  clear q
  by_cases q : h.lg < 1
  · have d3 : decide (h.lg < 1) = true := decide_eq_true q
    have HV := Lib.hid (HNO.out (fun z => by have := z.lg0; omega))
    (try clear q)
    go_wp2_with (fail)
    go_ret
    exact ⟨by rw [HV.out]; rfl, by (repeat (first | with_reducible exact HU3.out | with_reducible refine Up.alloc ?_ _ | with_reducible refine Up.drew ?_ | with_reducible refine Up.drewN ?_ _))⟩
  have d3 : decide (h.lg < 1) = false := decide_eq_false q
  have HQa8 := Lib.hid q
  clear q
  by_cases q : 64 < h.lg
  · have d4 : decide (64 < h.lg) = true := decide_eq_true q
    have HV := Lib.hid (HNO.out (fun z => by have := z.lg1; omega))
    (try clear q)
    go_wp2_with (fail)
    go_ret
    exact ⟨by rw [HV.out]; rfl, by (repeat (first | with_reducible exact HU3.out | with_reducible refine Up.alloc ?_ _ | with_reducible refine Up.drew ?_ | with_reducible refine Up.drewN ?_ _))⟩
  have d4 : decide (64 < h.lg) = false := decide_eq_false q
  have HQa9 := Lib.hid q
  clear q
  by_cases q : n = 0
  · have HN0 := Lib.hid q
    subst q
    have HV := Lib.hid (HNO.out (fun z => by have := z.n0; have := HN.out; omega))
    (try clear q)
    go_wp2_with (fail)
    go_ret
    exact ⟨by rw [HV.out]; rfl, by (repeat (first | with_reducible exact HU3.out | with_reducible refine Up.alloc ?_ _ | with_reducible refine Up.drew ?_ | with_reducible refine Up.drewN ?_ _))⟩
  have d5 : decide ((n : Int) < 1) = false := decide_eq_false (by omega)
  have d5' : decide (n = 0) = false := decide_eq_false q
  have d5'' : (n == 0) = false := beq_eq_false_iff_ne.mpr q
  have HQa10 := Lib.hid q
  clear q
  by_cases q : 4 < n
  · have d6 : decide (4 < n) = true := decide_eq_true q
    have d6' : decide ((4 : Int) < (n : Int)) = true := decide_eq_true (by omega)
    have HV := Lib.hid (HNO.out (fun z => by have := z.n1; have := HN.out; omega))
    (try clear q)
    go_wp2_with (fail)
    go_ret
    exact ⟨by rw [HV.out]; rfl, by (repeat (first | with_reducible exact HU3.out | with_reducible refine Up.alloc ?_ _ | with_reducible refine Up.drew ?_ | with_reducible refine Up.drewN ?_ _))⟩
  have d6 : decide (4 < n) = false := decide_eq_false q
  have d6' : decide ((4 : Int) < (n : Int)) = false := decide_eq_false (by omega)
  have HQa11 := Lib.hid q
  clear q
  go_wp2_with (fail)
  clear bH3 bH3c bH3f bH3l U3
  go_loopw [6] (fun i wr => RRel w3 h n i wr) (fun i _ => n - (intOf i).toNat)
  case atStart => exact ⟨0, Nat.zero_le _, rfl, Up.refl _, fun j t q => absurd q (by omega)⟩
  case round =>
    obtain ⟨x, hx, rfl, hu, hold⟩ := hrel
    have HUR := Lib.hid (HU3.out.trans hu)
    have HU5 := Lib.hid hu
    have HOLD := Lib.hid hold
    have bHr := HBH.out.up hu
    have HBR := Lib.hid bHr
    have bHc := bHr.cell
    have bHl := bHr.lt
    clear hold hu bHr
    by_cases hlt : x < n
    · obtain ⟨u, t, e1, e2, r1⟩ := HTH.out wr HUR.out x hlt
      obtain ⟨p, rfl, hp, p0, p1⟩ := rc_elem (k := 8) (HX.out wr HUR.out) (fun _ => rfl) (by decide) e1
      obtain ⟨A1, c1, f1⟩ := r1.st.slice
      obtain ⟨A2, c2, f2⟩ := r1.lg.slice
      obtain ⟨A3, c3, f3⟩ := r1.lf.slice
      obtain ⟨A4, c4, f4⟩ := r1.pd.slice
      obtain ⟨A5, c5, f5⟩ := r1.dn.slice
      have hpm := r1.pd.max
      have g1 := r1.ba
      have g2 := r1.be
      obtain ⟨ust, uba, ube, ulg, ulf, upd, uwt, udn⟩ := u
      simp only at f1 f2 f3 f4 f5 g1 g2
      subst f1 f2 f3 f4 f5
      have HT2 := Lib.hid e2
      have HG := Lib.hid (show thG h.fa t ↔ ((uba = 0 ∧ ube = 0) ∨ (0 ≤ uba ∧ uba ≤ ube ∧ ube ≤ h.fa)) ∧ t.pd.length ≤ 1 from by unfold thG; rw [← g1, ← g2])
      have HMEM := Lib.hid (List.mem_of_getElem? e2)
      have hnp63 : t.pd.length ≤ 9223372036854775807 := by unfold maxLen at hpm; omega
      clear r1 hpm g1 g2 e2
      generalize t.st.length = n1' at *
      generalize t.lg.length = n2' at *
      generalize t.lf.length = n3' at *
      generalize t.pd.length = np at *
      generalize t.dn.length = n5' at *
      have a0 : wr.cell? (p.add (x * 8)) = some (.slice A1 n1' c1) := p0
      have a1 : wr.cell? ⟨(p.add (x * 8)).block, (p.add (x * 8)).off + 1, none⟩ = some (.int .i64 uba) := p1 0 _ rfl
      have a2 : wr.cell? ⟨(p.add (x * 8)).block, (p.add (x * 8)).off + 2, none⟩ = some (.int .i64 ube) := p1 1 _ rfl
      have a3 : wr.cell? ⟨(p.add (x * 8)).block, (p.add (x * 8)).off + 3, none⟩ = some (.slice A2 n2' c2) := p1 2 _ rfl
      have a4 : wr.cell? ⟨(p.add (x * 8)).block, (p.add (x * 8)).off + 4, none⟩ = some (.slice A3 n3' c3) := p1 3 _ rfl
      have a5 : wr.cell? ⟨(p.add (x * 8)).block, (p.add (x * 8)).off + 5, none⟩ = some (.slice A4 np c4) := p1 4 _ rfl
      have a6 : wr.cell? ⟨(p.add (x * 8)).block, (p.add (x * 8)).off + 6, none⟩ = some (.bool uwt) := p1 5 _ rfl
      have a7 : wr.cell? ⟨(p.add (x * 8)).block, (p.add (x * 8)).off + 7, none⟩ = some (.slice A5 n5' c5) := p1 6 _ rfl
      clear p0 p1 e1
      by_cases k5 : uba = 0
      · have s1 : (uba == 0) = true := beq_iff_eq.2 k5
        by_cases k6 : ube = 0
        · have s2 : (ube == 0) = true := beq_iff_eq.2 k6
          by_cases k1 : 1 < np
          · have s9 : decide (1 < np) = true := decide_eq_true k1
            have s9' : decide ((1 : Int) < (np : Int)) = true := decide_eq_true (by omega)
            have HV := Lib.hid (HNO.out (fun z => by have q := (HG.out.1 (z.th t HMEM.out)); omega))
            clear k1 k5 k6
            go_wp2_with (fail)
            go_ret
            exact ⟨by rw [HV.out]; rfl, by (repeat (first | with_reducible exact HUR.out | with_reducible refine Up.alloc ?_ _ | with_reducible refine Up.drew ?_ | with_reducible refine Up.drewN ?_ _))⟩
          · have s9 : decide (1 < np) = false := decide_eq_false k1
            have s9' : decide ((1 : Int) < (np : Int)) = false := decide_eq_false (by omega)
            have HGG := Lib.hid (HG.out.2 (by omega))
            clear k1 k5 k6
            go_wp2_with (fail)
            refine ⟨⟨x + 1, by omega, by go_num, by (repeat (first | with_reducible exact HU5.out | with_reducible refine Up.alloc ?_ _ | with_reducible refine Up.drew ?_ | with_reducible refine Up.drewN ?_ _)), fun j t' hj ht' => ?_⟩, by simp [intOf]; omega⟩
            rcases Nat.lt_or_ge j x with k | k
            · exact HOLD.out j t' k ht'
            · obtain rfl : j = x := by omega
              have e := HT2.out
              rw [ht'] at e
              cases e
              exact HGG.out
        · have s2 : (ube == 0) = false := beq_eq_false_iff_ne.mpr k6
          have k2 : ¬ uba < 0 := by omega
          have s3 : decide (uba < 0) = false := decide_eq_false k2
          by_cases k3 : ube < uba
          · have s4 : decide (ube < uba) = true := decide_eq_true k3
            have HV := Lib.hid (HNO.out (fun z => by have q := (HG.out.1 (z.th t HMEM.out)); omega))
            clear k3 k2 k5 k6
            go_wp2_with (fail)
            go_ret
            exact ⟨by rw [HV.out]; rfl, by (repeat (first | with_reducible exact HUR.out | with_reducible refine Up.alloc ?_ _ | with_reducible refine Up.drew ?_ | with_reducible refine Up.drewN ?_ _))⟩
          have s4 : decide (ube < uba) = false := decide_eq_false k3
          by_cases k4 : h.fa < ube
          · have s5 : decide (h.fa < ube) = true := decide_eq_true k4
            have HV := Lib.hid (HNO.out (fun z => by have q := (HG.out.1 (z.th t HMEM.out)); omega))
            clear k4 k3 k2 k5 k6
            go_wp2_with (fail)
            go_ret
            exact ⟨by rw [HV.out]; rfl, by (repeat (first | with_reducible exact HUR.out | with_reducible refine Up.alloc ?_ _ | with_reducible refine Up.drew ?_ | with_reducible refine Up.drewN ?_ _))⟩
          have s5 : decide (h.fa < ube) = false := decide_eq_false k4
          by_cases k1 : 1 < np
          · have s9 : decide (1 < np) = true := decide_eq_true k1
            have s9' : decide ((1 : Int) < (np : Int)) = true := decide_eq_true (by omega)
            have HV := Lib.hid (HNO.out (fun z => by have q := (HG.out.1 (z.th t HMEM.out)); omega))
            clear k1 k4 k3 k2 k5 k6
            go_wp2_with (fail)
            go_ret
            exact ⟨by rw [HV.out]; rfl, by (repeat (first | with_reducible exact HUR.out | with_reducible refine Up.alloc ?_ _ | with_reducible refine Up.drew ?_ | with_reducible refine Up.drewN ?_ _))⟩
          · have s9 : decide (1 < np) = false := decide_eq_false k1
            have s9' : decide ((1 : Int) < (np : Int)) = false := decide_eq_false (by omega)
            have HGG := Lib.hid (HG.out.2 (by omega))
            clear k1 k4 k3 k2 k5 k6
            go_wp2_with (fail)
            refine ⟨⟨x + 1, by omega, by go_num, by (repeat (first | with_reducible exact HU5.out | with_reducible refine Up.alloc ?_ _ | with_reducible refine Up.drew ?_ | with_reducible refine Up.drewN ?_ _)), fun j t' hj ht' => ?_⟩, by simp [intOf]; omega⟩
            rcases Nat.lt_or_ge j x with k | k
            · exact HOLD.out j t' k ht'
            · obtain rfl : j = x := by omega
              have e := HT2.out
              rw [ht'] at e
              cases e
              exact HGG.out
      · have s1 : (uba == 0) = false := beq_eq_false_iff_ne.mpr k5
        by_cases k2 : uba < 0
        · have s3 : decide (uba < 0) = true := decide_eq_true k2
          have HV := Lib.hid (HNO.out (fun z => by have q := (HG.out.1 (z.th t HMEM.out)); omega))
          clear k2 k5
          go_wp2_with (fail)
          go_ret
          exact ⟨by rw [HV.out]; rfl, by (repeat (first | with_reducible exact HUR.out | with_reducible refine Up.alloc ?_ _ | with_reducible refine Up.drew ?_ | with_reducible refine Up.drewN ?_ _))⟩
        have s3 : decide (uba < 0) = false := decide_eq_false k2
        by_cases k3 : ube < uba
        · have s4 : decide (ube < uba) = true := decide_eq_true k3
          have HV := Lib.hid (HNO.out (fun z => by have q := (HG.out.1 (z.th t HMEM.out)); omega))
          clear k3 k2 k5
          go_wp2_with (fail)
          go_ret
          exact ⟨by rw [HV.out]; rfl, by (repeat (first | with_reducible exact HUR.out | with_reducible refine Up.alloc ?_ _ | with_reducible refine Up.drew ?_ | with_reducible refine Up.drewN ?_ _))⟩
        have s4 : decide (ube < uba) = false := decide_eq_false k3
        by_cases k4 : h.fa < ube
        · have s5 : decide (h.fa < ube) = true := decide_eq_true k4
          have HV := Lib.hid (HNO.out (fun z => by have q := (HG.out.1 (z.th t HMEM.out)); omega))
          clear k4 k3 k2 k5
          go_wp2_with (fail)
          go_ret
          exact ⟨by rw [HV.out]; rfl, by (repeat (first | with_reducible exact HUR.out | with_reducible refine Up.alloc ?_ _ | with_reducible refine Up.drew ?_ | with_reducible refine Up.drewN ?_ _))⟩
        have s5 : decide (h.fa < ube) = false := decide_eq_false k4
        by_cases k1 : 1 < np
        · have s9 : decide (1 < np) = true := decide_eq_true k1
          have s9' : decide ((1 : Int) < (np : Int)) = true := decide_eq_true (by omega)
          have HV := Lib.hid (HNO.out (fun z => by have q := (HG.out.1 (z.th t HMEM.out)); omega))
          clear k1 k4 k3 k2 k5
          go_wp2_with (fail)
          go_ret
          exact ⟨by rw [HV.out]; rfl, by (repeat (first | with_reducible exact HUR.out | with_reducible refine Up.alloc ?_ _ | with_reducible refine Up.drew ?_ | with_reducible refine Up.drewN ?_ _))⟩
        · have s9 : decide (1 < np) = false := decide_eq_false k1
          have s9' : decide ((1 : Int) < (np : Int)) = false := decide_eq_false (by omega)
          have HGG := Lib.hid (HG.out.2 (by omega))
          clear k1 k4 k3 k2 k5
          go_wp2_with (fail)
          refine ⟨⟨x + 1, by omega, by go_num, by (repeat (first | with_reducible exact HU5.out | with_reducible refine Up.alloc ?_ _ | with_reducible refine Up.drew ?_ | with_reducible refine Up.drewN ?_ _)), fun j t' hj ht' => ?_⟩, by simp [intOf]; omega⟩
          rcases Nat.lt_or_ge j x with k | k
          · exact HOLD.out j t' k ht'
          · obtain rfl : j = x := by omega
            have e := HT2.out
            rw [ht'] at e
            cases e
            exact HGG.out
    · obtain rfl : n = x := by omega
      by_cases q : h.ph < 0
      · have f1 : decide (0 ≤ h.ph) = false := decide_eq_false (by omega)
        have HV := Lib.hid (HNO.out (fun z => by have := z.ph0; omega))
        clear q
        go_wp2_with (fail)
        go_ret
        exact ⟨by rw [HV.out]; rfl, by (repeat (first | with_reducible exact HUR.out | with_reducible refine Up.alloc ?_ _ | with_reducible refine Up.drew ?_ | with_reducible refine Up.drewN ?_ _))⟩
      have f1 : decide (0 ≤ h.ph) = true := decide_eq_true (by omega)
      have HQb0 := Lib.hid q
      clear q
      by_cases q : 2 < h.ph
      · have f2 : decide (h.ph ≤ 2) = false := decide_eq_false (by omega)
        have HV := Lib.hid (HNO.out (fun z => by have := z.ph1; omega))
        clear q
        go_wp2_with (fail)
        go_ret
        exact ⟨by rw [HV.out]; rfl, by (repeat (first | with_reducible exact HUR.out | with_reducible refine Up.alloc ?_ _ | with_reducible refine Up.drew ?_ | with_reducible refine Up.drewN ?_ _))⟩
      have f2 : decide (h.ph ≤ 2) = true := decide_eq_true (by omega)
      have HQb1 := Lib.hid q
      clear q
      by_cases q : h.sc < 0
      · have f3 : decide (0 ≤ h.sc) = false := decide_eq_false (by omega)
        have HV := Lib.hid (HNO.out (fun z => by have := z.sc0; omega))
        clear q
        go_wp2_with (fail)
        go_ret
        exact ⟨by rw [HV.out]; rfl, by (repeat (first | with_reducible exact HUR.out | with_reducible refine Up.alloc ?_ _ | with_reducible refine Up.drew ?_ | with_reducible refine Up.drewN ?_ _))⟩
      have f3 : decide (0 ≤ h.sc) = true := decide_eq_true (by omega)
      have HQb2 := Lib.hid q
      clear q
      by_cases q : h.ta < h.sc
      · have f4 : decide (h.sc ≤ h.ta) = false := decide_eq_false (by omega)
        have HV := Lib.hid (HNO.out (fun z => by have := z.sc1; omega))
        clear q
        go_wp2_with (fail)
        go_ret
        exact ⟨by rw [HV.out]; rfl, by (repeat (first | with_reducible exact HUR.out | with_reducible refine Up.alloc ?_ _ | with_reducible refine Up.drew ?_ | with_reducible refine Up.drewN ?_ _))⟩
      have f4 : decide (h.sc ≤ h.ta) = true := decide_eq_true (by omega)
      have HQb3 := Lib.hid q
      clear q
      have HTHS : ∀ t' ∈ h.th, thG h.fa t' := by
        intro t' ht'
        obtain ⟨j, hj⟩ := List.mem_iff_getElem?.1 ht'
        refine HOLD.out j t' ?_ hj
        have := HN.out
        rcases Nat.lt_or_ge j h.th.length with k | k
        · omega
        · rw [List.getElem?_eq_none k] at hj; cases hj
      have k4 := HQa4.out
      have k5 := HQa5.out
      have k6 := HQa6.out
      have k7 := HQa7.out
      have k8 := HQa8.out
      have k9 := HQa9.out
      have k10 := HQa10.out
      have k11 := HQa11.out
      have k12 := HN.out
      have k13 := HQb0.out
      have k14 := HQb1.out
      have k15 := HQb2.out
      have k16 := HQb3.out
      have HV := Lib.hid (HYES.out ⟨HXM.out, HXF.out, HXT.out, HQa3.out, by omega, by omega, by omega, by omega, by omega, by omega, by omega, by omega, HTHS, by omega, by omega, by omega, by omega⟩)
      clear k4 k5 k6 k7 k8 k9 k10 k11 k12 k13 k14 k15 k16 HTHS
      go_wp2_with (fail)
      go_ret
      exact ⟨by rw [HV.out]; rfl, by (repeat (first | with_reducible exact HUR.out | with_reducible refine Up.alloc ?_ _ | with_reducible refine Up.drew ?_ | with_reducible refine Up.drewN ?_ _))⟩
/-- Few: a right heap of 200 words at most. -/
noncomputable def fewH (N : Int) (n0 n1 : Nat) (h : Hp) : Bool := rgH N n0 n1 h && decide (N ≤ 200)
set_option maxRecDepth 100000 in
set_option maxHeartbeats 2000000 in
theorem few_any (h : Hp) (N : Int) (A0 A1 : Option Addr) (n0 n1 c0 c1 : Nat) (vt vo : Value) (us : List Tv) (w : World) (hvt : Rc tvc w vt us) (hr : ThsR w us h.th) (ho : Rc inc w vo h.od) :
    Calls Tryz.prog 10 #[.agg #[.int .i64 N, .slice A0 n0 c0, .slice A1 n1 c1, .int .i64 h.fs, .int .i64 h.fa, .int .i64 h.fl, .int .i64 h.ts, .int .i64 h.ta, .int .i64 h.tl, .int .i64 h.sz, .int .i64 h.lg, vt, .int .i64 h.ph, .int .i64 h.sc, .int .i64 h.fp, vo, .int .i64 h.bk]] w fun e w' => e = .returned (.bool (fewH N n0 n1 h)) ∧ Up w w' := by
  have HR := Lib.hid (fun W (k : Up w W) => rright_any h N A0 A1 n0 n1 c0 c1 vt vo us W (hvt.up k) (hr.up k) (ho.up k))
  obtain ⟨A, ct, rfl⟩ := hvt.slice
  obtain ⟨B, co, rfl⟩ := ho.slice
  unfold fewH
  obtain ⟨r, hr0⟩ : ∃ r, rgH N n0 n1 h = r := ⟨_, rfl⟩
  obtain ⟨s, hs0⟩ : ∃ s, decide (N ≤ 200) = s := ⟨_, rfl⟩
  rw [hr0] at HR ⊢
  rw [hs0]
  clear hvt hr ho hr0
  generalize us.length = n at *
  generalize h.od.length = no at *
  cases r
  all_goals
    go_enter Tryz.func10, Tryz.ntmps10
    go_wp2_with (fail)
    refine calls_at (fun V1 hV => ?_)
    have kv : Up w V1 := by rw [hV]; (repeat (first | with_reducible exact Up.refl _ | with_reducible refine Up.alloc ?_ _ | with_reducible refine Up.drew ?_ | refine Up.setCell ?_ (by simp <;> omega) _))
    have bHv : Blk V1 (w.heap.size) 32 #[.int .i64 N, .slice A0 n0 c0, .slice A1 n1 c1, .int .i64 h.fs, .int .i64 h.fa, .int .i64 h.fl, .int .i64 h.ts, .int .i64 h.ta, .int .i64 h.tl, .int .i64 h.sz, .int .i64 h.lg, .slice A n ct, .int .i64 h.ph, .int .i64 h.sc, .int .i64 h.fp, .slice B no co, .int .i64 h.bk] := by rw [hV]; (repeat (first | with_reducible exact Blk.new' _ (by simp) _ _ | with_reducible refine Blk.alloc ?_ _ | with_reducible refine Blk.drew ?_ | refine Blk.far ?_ (by simp <;> omega) _))
    have Uv : Up w V1 := kv
    clear hV kv 
    refine (HR.out V1 Uv).mono ?_
    rintro e w1 ⟨rfl, k1⟩
    have bH1 := bHv.up k1
    have U1 := Uv.trans k1
    clear k1 Uv bHv 
    have bH1c := bH1.cell
    have bH1f := bH1.frozen
    have bH1l := bH1.lt
    go_wp2
    go_ret
    refine ⟨by simp, ?_⟩
    (repeat (first | with_reducible exact U1 | with_reducible refine Up.alloc ?_ _ | with_reducible refine Up.drew ?_ | refine Up.setCell ?_ (by simp <;> omega) _))
end Go.Proofs.YtddoljfkbkbfjaaGreat.T
