/- What a thread does in a step (act.Do): contract. -/
import Derived.Test.YtddoljfkbkbfjaaGreatTz
import Derived.Test.YtddoljfkbkbfjaaGreatUa
import Derived.Test.YtddoljfkbkbfjaaGreatUb
import Derived.Test.YtddoljfkbkbfjaaGreatWa
namespace Go.Proofs.YtddoljfkbkbfjaaGreat.T
open G
open Go.Joins Go.ChangeShapes Go.WideShapes Go.ChangeAt Go.RowKit Go.Deep Go.Shelf Go.Maps
set_option linter.unusedVariables false
set_option linter.unusedSimpArgs false
/-- A heap that is right, whose words are words. -/
structure HpG (h : Hp) : Prop where
  wf : h.m.wf
  fr : rgt h.fs h.fa h.fl
  fl : h.fl = h.m.n
  ok : ∀ t ∈ h.th, ThOk t
  bf : ∀ t ∈ h.th, (t.ba = 0 ∧ t.be = 0) ∨ (0 ≤ t.ba ∧ t.ba ≤ t.be ∧ t.be ≤ h.fa)
  pd : ∀ t ∈ h.th, t.pd.length ≤ 1
/-- A heap in which a thread has done a step. -/
def didH (h : Hp) (th : Int) : Hp :=
  if canB h th = true then (match h.th[th.toNat]? with | some t => (match t.pd with | e :: _ => logH h th.toNat t e | [] => doH h th.toNat t (t.lf.headD oz)) | none => h) else h
set_option maxRecDepth 100000 in
set_option maxHeartbeats 4000000 in
theorem do_no (h : Hp) (P Q : Addr) (c d : Nat) (vt vo : Value) (us0 : List Tv) (w : World) (hm : Sits w h.m P Q c d) (hvt : Rc tvc w vt us0) (hr : ThsR w us0 h.th) (ho : Rc inc w vo h.od) (th : Int) (hcan : canB h th = false) :
    Calls Tryz.prog 11 #[.agg (hpc h P Q c d vt vo), .int .i64 th] w (OutH h w) := by
  have HR := Lib.hid (show ∀ w', Up w w' → HpR w' (.agg (hpc h P Q c d vt vo)) h from fun w' u => ⟨P, Q, c, d, vt, vo, us0, rfl, hm.up u, hvt.up u, hr.up u, ho.up u⟩)
  have hul : us0.length = h.th.length := hr.1
  have HCAN := Lib.hid (fun W (u : Up w W) => can_any h P Q c d vt vo us0 W (hvt.up u) (hr.up u) (ho.up u) th)
  have HCV := Lib.hid hcan
  obtain ⟨A, ct, rfl, hv1, hv2, -, -⟩ := id hvt
  obtain ⟨B, co, rfl, -⟩ := id ho
  clear hcan hm hvt hr ho hv1 hv2 hul
  generalize hW : w.alloc (.cells #[.int .i64 h.m.n, .slice (some P) h.m.n c, .slice (some Q) h.m.n d, .int .i64 h.fs, .int .i64 h.fa, .int .i64 h.fl, .int .i64 h.ts, .int .i64 h.ta, .int .i64 h.tl, .int .i64 h.sz, .int .i64 h.lg, (.slice A us0.length ct), .int .i64 h.ph, .int .i64 h.sc, .int .i64 h.fp, (.slice B h.od.length co), .int .i64 h.bk] 32) = W0
  have bH : Blk W0 w.heap.size 32 (hpc h P Q c d (.slice A us0.length ct) (.slice B h.od.length co)) := by rw [← hW]; exact Blk.new _ _ _
  have UW0 : Up w W0 := by rw [← hW]; exact (Up.refl w).alloc _
  have HW := Lib.hid hW
  clear hW
  have hs0 : W0.heap.size = w.heap.size + 1 := by rw [← HW.out]; exact World.size_alloc _ _
  have bZ : Blk (W0.alloc (.cells #[.int .i64 0, .slice none 0 0, .slice none 0 0, .int .i64 0, .int .i64 0, .int .i64 0, .int .i64 0, .int .i64 0, .int .i64 0, .int .i64 0, .int .i64 0, .slice none 0 0, .int .i64 0, .int .i64 0, .int .i64 0, .slice none 0 0, .int .i64 0] 32)) (w.heap.size + 1) 32 hz := Blk.new' W0 hs0.symm _ _
  have bH3 : Blk (W0.alloc (.cells #[.int .i64 0, .slice none 0 0, .slice none 0 0, .int .i64 0, .int .i64 0, .int .i64 0, .int .i64 0, .int .i64 0, .int .i64 0, .int .i64 0, .int .i64 0, .slice none 0 0, .int .i64 0, .int .i64 0, .int .i64 0, .slice none 0 0, .int .i64 0] 32)) w.heap.size 32 (hpc h P Q c d (.slice A us0.length ct) (.slice B h.od.length co)) := bH.alloc _
  have U3 : Up w (W0.alloc (.cells #[.int .i64 0, .slice none 0 0, .slice none 0 0, .int .i64 0, .int .i64 0, .int .i64 0, .int .i64 0, .int .i64 0, .int .i64 0, .int .i64 0, .int .i64 0, .slice none 0 0, .int .i64 0, .int .i64 0, .int .i64 0, .slice none 0 0, .int .i64 0] 32)) := UW0.alloc _
  generalize hW3 : (W0.alloc (.cells #[.int .i64 0, .slice none 0 0, .slice none 0 0, .int .i64 0, .int .i64 0, .int .i64 0, .int .i64 0, .int .i64 0, .int .i64 0, .int .i64 0, .int .i64 0, .slice none 0 0, .int .i64 0, .int .i64 0, .int .i64 0, .slice none 0 0, .int .i64 0] 32)) = W3 at *
  have HW3 := Lib.hid hW3
  have HBZ := Lib.hid bZ
  have HBH := Lib.hid bH3
  have HU3 := Lib.hid U3
  have bc := bH3.cell
  have bl := bH3.lt
  clear hW3 bH UW0 hs0 bZ bH3 U3
  unfold hpc at HCAN bc ⊢
  go_enter Tryz.func11, Tryz.ntmps11
  go_upto_region 1 with fail
  rw [HW.out]
  rw [HW3.out]
  go_wp2_with (fail)
  refine (HCAN.out _ HU3.out).mono ?_
  rintro e w1 ⟨he, hu⟩
  rw [HCV.out] at he
  subst he
  have HBH1 := Lib.hid (HBH.out.up hu)
  have HBZ1 := Lib.hid (HBZ.out.up hu)
  have HU1 := Lib.hid (HU3.out.trans hu)
  clear hu bc bl
  go_upto_region 2 with fail
  refine do2_wp HBH1.out HBZ1.out _ _ _ _ _ _ _ _ _ _ _ _ _ _ _ _ _ _ _ _ _ _ _ _ _ _ _ _ _ _ _ _ _ _ _ _ _ _ _ _ _ _ _ _ _ _ _ _ _ _ _ _ _ _ _ _ _ _ _ _ _ _ _ _ _ (Lib.hid ?_)
  intro y10 w5 hb5 hk5
  have HB5 := Lib.hid hb5
  have HK5 := Lib.hid hk5
  clear hb5 hk5
  go_wp2_with (fail)
  refine bodyPost_ret (ret_heap rfl _ _ _ _ _ _ _ _ _ _ _ _ _ _ _ _ _ _ _ _ rfl HB5.out) rfl ?_
  have U5 := HU1.out.kp HK5.out (by simp <;> omega)
  exact ⟨_, rfl, HR.out _ U5, U5⟩
set_option maxRecDepth 100000 in
set_option maxHeartbeats 4000000 in
theorem do_pend (h : Hp) (P Q : Addr) (c d : Nat) (vt vo : Value) (us0 : List Tv) (w : World) (hm : Sits w h.m P Q c d) (hvt : Rc tvc w vt us0) (hr : ThsR w us0 h.th) (ho : Rc inc w vo h.od) (hF : HpF h) (j : Nat) (t : Th) (ht : h.th[j]? = some t) (hcan : canB h (j : Int) = true) (e : Ent) (hpd : t.pd = [e]) :
    Calls Tryz.prog 11 #[.agg (hpc h P Q c d vt vo), .int .i64 j] w (OutH (logH h j t e) w) := by
  have HT := Lib.hid ht
  have HB := Lib.hid (fun W (u : Up w W) => begun_any h P Q c d vt vo us0 W (hm.up u) (hvt.up u) (hr.up u) (ho.up u) hF ht)
  have HF := Lib.hid hF
  have hul : us0.length = h.th.length := hr.1
  have HCAN := Lib.hid (fun W (u : Up w W) => can_any h P Q c d vt vo us0 W (hvt.up u) (hr.up u) (ho.up u) (j : Int))
  have HCV := Lib.hid hcan
  obtain ⟨A, ct, rfl, hv1, hv2, -, -⟩ := id hvt
  obtain ⟨B, co, rfl, -⟩ := id ho
  have HPD := Lib.hid hpd
  clear hcan hm hvt hr ho hv1 hv2 hul hF ht hpd
  generalize hW : w.alloc (.cells #[.int .i64 h.m.n, .slice (some P) h.m.n c, .slice (some Q) h.m.n d, .int .i64 h.fs, .int .i64 h.fa, .int .i64 h.fl, .int .i64 h.ts, .int .i64 h.ta, .int .i64 h.tl, .int .i64 h.sz, .int .i64 h.lg, (.slice A us0.length ct), .int .i64 h.ph, .int .i64 h.sc, .int .i64 h.fp, (.slice B h.od.length co), .int .i64 h.bk] 32) = W0
  have bH : Blk W0 w.heap.size 32 (hpc h P Q c d (.slice A us0.length ct) (.slice B h.od.length co)) := by rw [← hW]; exact Blk.new _ _ _
  have UW0 : Up w W0 := by rw [← hW]; exact (Up.refl w).alloc _
  have HW := Lib.hid hW
  clear hW
  have hs0 : W0.heap.size = w.heap.size + 1 := by rw [← HW.out]; exact World.size_alloc _ _
  have bZ : Blk (W0.alloc (.cells #[.int .i64 0, .slice none 0 0, .slice none 0 0, .int .i64 0, .int .i64 0, .int .i64 0, .int .i64 0, .int .i64 0, .int .i64 0, .int .i64 0, .int .i64 0, .slice none 0 0, .int .i64 0, .int .i64 0, .int .i64 0, .slice none 0 0, .int .i64 0] 32)) (w.heap.size + 1) 32 hz := Blk.new' W0 hs0.symm _ _
  have bH3 : Blk (W0.alloc (.cells #[.int .i64 0, .slice none 0 0, .slice none 0 0, .int .i64 0, .int .i64 0, .int .i64 0, .int .i64 0, .int .i64 0, .int .i64 0, .int .i64 0, .int .i64 0, .slice none 0 0, .int .i64 0, .int .i64 0, .int .i64 0, .slice none 0 0, .int .i64 0] 32)) w.heap.size 32 (hpc h P Q c d (.slice A us0.length ct) (.slice B h.od.length co)) := bH.alloc _
  have U3 : Up w (W0.alloc (.cells #[.int .i64 0, .slice none 0 0, .slice none 0 0, .int .i64 0, .int .i64 0, .int .i64 0, .int .i64 0, .int .i64 0, .int .i64 0, .int .i64 0, .int .i64 0, .slice none 0 0, .int .i64 0, .int .i64 0, .int .i64 0, .slice none 0 0, .int .i64 0] 32)) := UW0.alloc _
  generalize hW3 : (W0.alloc (.cells #[.int .i64 0, .slice none 0 0, .slice none 0 0, .int .i64 0, .int .i64 0, .int .i64 0, .int .i64 0, .int .i64 0, .int .i64 0, .int .i64 0, .int .i64 0, .slice none 0 0, .int .i64 0, .int .i64 0, .int .i64 0, .slice none 0 0, .int .i64 0] 32)) = W3 at *
  have HW3 := Lib.hid hW3
  have HBZ := Lib.hid bZ
  have HBH := Lib.hid bH3
  have HU3 := Lib.hid U3
  have bc := bH3.cell
  have bl := bH3.lt
  clear hW3 bH UW0 hs0 bZ bH3 U3
  unfold hpc at HCAN HB bc ⊢
  go_enter Tryz.func11, Tryz.ntmps11
  go_upto_region 1 with fail
  rw [HW.out]
  rw [HW3.out]
  go_wp2_with (fail)
  refine (HCAN.out _ HU3.out).mono ?_
  rintro e w1 ⟨he, hu⟩
  rw [HCV.out] at he
  subst he
  have HBH1 := Lib.hid (HBH.out.up hu)
  have HBZ1 := Lib.hid (HBZ.out.up hu)
  have HU1 := Lib.hid (HU3.out.trans hu)
  clear bc bl
  have bc := HBH1.out.cell
  have bl := HBH1.out.lt
  unfold hpc at bc
  clear hu
  go_wp2_with (fail)
  refine (HB.out w1 HU1.out).mono ?_
  rintro e w2 ⟨b, D, T, S3, rfl, hb1, hb2, hst, hu⟩
  have HBZ2 := Lib.hid (HBZ1.out.up hu)
  have HU2 := Lib.hid (HU1.out.trans hu)
  have HB1 := Lib.hid hb1
  have HB2 := Lib.hid hb2
  have HST := Lib.hid hst
  obtain ⟨us, P2, Q2, c2, d2, A2, co2, cT, hD, hTb, hc1, hc2, -, -, hR⟩ := hst
  obtain ⟨u, hu', hO⟩ := hR.at_ HT.out
  have dc := hD.cell
  unfold stc at dc
  have dl := hD.lt
  obtain ⟨t0, t1, t2, t3, t4, t5, t6, t7⟩ := tcs hTb hu'
  have tl := hTb.lt
  obtain ⟨Ap, cp, ep⟩ := hO.pd.slice
  rw [HPD.out] at ep
  simp only [List.length_cons, List.length_nil, Nat.zero_add] at ep
  rw [ep] at t5
  clear hu hb1 hb2 hD hTb hc1 hc2 hR hu' hO ep t0 t1 t2 t3 t4 t6 t7 bc bl
  go_upto_region 5 with fail
  refine do5_wp HST.out HT.out HPD.out (by have := (HF.out.th t (List.mem_of_getElem? HT.out)).lg; omega) HB2.out _ _ _ _ _ _ _ _ _ _ _ _ _ _ _ _ _ _ _ _ _ _ _ _ _ _ _ _ _ _ _ _ _ _ _ _ _ _ _ _ _ _ _ _ _ _ _ _ _ _ _ _ _ _ _ _ _ _ _ _ _ _ _ _ _ _ (Lib.hid ?_)
  intro y23 y24 y25 y26 y27 y28 y29 y30 y31 y32 y33 y34 y35 y36 y37 y38 y39 y40 y41 y42 y43 y44 y45 y46 y47 y48 y49 w3 hk hfin
  clear dc dl t5 tl
  generalize hH : logH h j t e = H at *
  obtain ⟨P3, Q3, c3, d3, vt3, vo3, us3, j3, q3, o3, s3, hD3, hs3, hr3, hh3, ho3, hi3⟩ := hfin
  have hge := HST.out.ge
  have hzl := HBZ1.out.lt
  have hgb : w.heap.size + 1 < b := by have := HB1.out; omega
  have HBZ3 := Lib.hid (HBZ2.out.kp hk (fun q => by have := hge _ q; omega))
  have HU4 := Lib.hid (HU2.out.kp hk (fun x hx => by have := hge x hx; omega))
  have HGB := Lib.hid hgb
  obtain ⟨A3, k3, rfl, -⟩ := id hr3
  obtain ⟨A4, k4, rfl, -⟩ := id ho3
  have HFI := Lib.hid (And.intro hs3 (And.intro hr3 (And.intro hh3 (And.intro ho3 hi3))))
  have HD3 := Lib.hid hD3
  clear hk hge hzl hgb hs3 hr3 hh3 ho3 hi3 hD3
  go_upto_region 7 with fail
  refine do7_wp HD3.out HBZ3.out _ _ _ _ _ _ _ _ _ _ _ _ _ _ _ _ _ _ _ _ _ _ _ _ _ _ _ _ _ _ _ _ _ _ _ _ _ _ _ _ _ _ _ _ _ _ _ _ _ _ _ _ _ _ _ _ _ _ _ _ _ _ _ _ _ (Lib.hid ?_)
  intro y61 y62 y63 y64 w5 hb5 hk5
  have HB5 := Lib.hid hb5
  have HK5 := Lib.hid hk5
  clear hb5 hk5 HD3 HBZ1 HBZ HBH HW HW3 HST
  go_wp2_with (fail)
  refine bodyPost_ret (ret_heap rfl _ _ _ _ _ _ _ _ _ _ _ _ _ _ _ _ _ _ _ _ rfl HB5.out) rfl ?_
  obtain ⟨hs3, hr3, hh3, ho3, hi3⟩ := HFI.out
  exact ⟨_, rfl, hpR_box HBZ3.out HK5.out hs3 hr3 hh3 ho3 hi3 HGB.out, HU4.out.kp HK5.out (by simp <;> omega)⟩
set_option maxRecDepth 100000 in
set_option maxHeartbeats 4000000 in
theorem do_act (h : Hp) (P Q : Addr) (c d : Nat) (vt vo : Value) (us0 : List Tv) (w : World) (hm : Sits w h.m P Q c d) (hvt : Rc tvc w vt us0) (hr : ThsR w us0 h.th) (ho : Rc inc w vo h.od) (hF : HpF h) (hG : HpG h) (j : Nat) (t : Th) (ht : h.th[j]? = some t) (hcan : canB h (j : Int) = true) (o : Op) (hpd : t.pd = []) (hlf : t.lf[0]? = some o) :
    Calls Tryz.prog 11 #[.agg (hpc h P Q c d vt vo), .int .i64 j] w (OutH (doH h j t o) w) := by
  have htm := List.mem_of_getElem? ht
  have hok := hG.ok t htm
  have hoo := hok.lf o (List.mem_of_getElem? hlf)
  have HDK := Lib.hid (show Dk h j t o from ⟨ht, hG.wf, hok.st, by have := (hF.th t htm).st; omega, hoo.2.2.2.2.1, hoo.2.2.2.2.2.2.2, hG.fr, hG.fl, hG.bf t htm⟩)
  have HKD := Lib.hid hoo.1
  clear hoo hok htm
  have HT := Lib.hid ht
  have HB := Lib.hid (fun W (u : Up w W) => begun_any h P Q c d vt vo us0 W (hm.up u) (hvt.up u) (hr.up u) (ho.up u) hF ht)
  have HF := Lib.hid hF
  have hul : us0.length = h.th.length := hr.1
  have HCAN := Lib.hid (fun W (u : Up w W) => can_any h P Q c d vt vo us0 W (hvt.up u) (hr.up u) (ho.up u) (j : Int))
  have HCV := Lib.hid hcan
  obtain ⟨A, ct, rfl, hv1, hv2, -, -⟩ := id hvt
  obtain ⟨B, co, rfl, -⟩ := id ho
  have HPD := Lib.hid hpd
  have HLF := Lib.hid hlf
  clear hcan hm hvt hr ho hv1 hv2 hul hF ht hpd hlf hG
  generalize hW : w.alloc (.cells #[.int .i64 h.m.n, .slice (some P) h.m.n c, .slice (some Q) h.m.n d, .int .i64 h.fs, .int .i64 h.fa, .int .i64 h.fl, .int .i64 h.ts, .int .i64 h.ta, .int .i64 h.tl, .int .i64 h.sz, .int .i64 h.lg, (.slice A us0.length ct), .int .i64 h.ph, .int .i64 h.sc, .int .i64 h.fp, (.slice B h.od.length co), .int .i64 h.bk] 32) = W0
  have bH : Blk W0 w.heap.size 32 (hpc h P Q c d (.slice A us0.length ct) (.slice B h.od.length co)) := by rw [← hW]; exact Blk.new _ _ _
  have UW0 : Up w W0 := by rw [← hW]; exact (Up.refl w).alloc _
  have HW := Lib.hid hW
  clear hW
  have hs0 : W0.heap.size = w.heap.size + 1 := by rw [← HW.out]; exact World.size_alloc _ _
  have bZ : Blk (W0.alloc (.cells #[.int .i64 0, .slice none 0 0, .slice none 0 0, .int .i64 0, .int .i64 0, .int .i64 0, .int .i64 0, .int .i64 0, .int .i64 0, .int .i64 0, .int .i64 0, .slice none 0 0, .int .i64 0, .int .i64 0, .int .i64 0, .slice none 0 0, .int .i64 0] 32)) (w.heap.size + 1) 32 hz := Blk.new' W0 hs0.symm _ _
  have bH3 : Blk (W0.alloc (.cells #[.int .i64 0, .slice none 0 0, .slice none 0 0, .int .i64 0, .int .i64 0, .int .i64 0, .int .i64 0, .int .i64 0, .int .i64 0, .int .i64 0, .int .i64 0, .slice none 0 0, .int .i64 0, .int .i64 0, .int .i64 0, .slice none 0 0, .int .i64 0] 32)) w.heap.size 32 (hpc h P Q c d (.slice A us0.length ct) (.slice B h.od.length co)) := bH.alloc _
  have U3 : Up w (W0.alloc (.cells #[.int .i64 0, .slice none 0 0, .slice none 0 0, .int .i64 0, .int .i64 0, .int .i64 0, .int .i64 0, .int .i64 0, .int .i64 0, .int .i64 0, .int .i64 0, .slice none 0 0, .int .i64 0, .int .i64 0, .int .i64 0, .slice none 0 0, .int .i64 0] 32)) := UW0.alloc _
  generalize hW3 : (W0.alloc (.cells #[.int .i64 0, .slice none 0 0, .slice none 0 0, .int .i64 0, .int .i64 0, .int .i64 0, .int .i64 0, .int .i64 0, .int .i64 0, .int .i64 0, .int .i64 0, .slice none 0 0, .int .i64 0, .int .i64 0, .int .i64 0, .slice none 0 0, .int .i64 0] 32)) = W3 at *
  have HW3 := Lib.hid hW3
  have HBZ := Lib.hid bZ
  have HBH := Lib.hid bH3
  have HU3 := Lib.hid U3
  have bc := bH3.cell
  have bl := bH3.lt
  clear hW3 bH UW0 hs0 bZ bH3 U3
  unfold hpc at HCAN HB bc ⊢
  go_enter Tryz.func11, Tryz.ntmps11
  go_upto_region 1 with fail
  rw [HW.out]
  rw [HW3.out]
  go_wp2_with (fail)
  refine (HCAN.out _ HU3.out).mono ?_
  rintro e w1 ⟨he, hu⟩
  rw [HCV.out] at he
  subst he
  have HBH1 := Lib.hid (HBH.out.up hu)
  have HBZ1 := Lib.hid (HBZ.out.up hu)
  have HU1 := Lib.hid (HU3.out.trans hu)
  clear bc bl
  have bc := HBH1.out.cell
  have bl := HBH1.out.lt
  unfold hpc at bc
  clear hu
  go_wp2_with (fail)
  refine (HB.out w1 HU1.out).mono ?_
  rintro e w2 ⟨b, D, T, S3, rfl, hb1, hb2, hst, hu⟩
  have HBZ2 := Lib.hid (HBZ1.out.up hu)
  have HU2 := Lib.hid (HU1.out.trans hu)
  have HB1 := Lib.hid hb1
  have HB2 := Lib.hid hb2
  have HST := Lib.hid hst
  obtain ⟨us, P2, Q2, c2, d2, A2, co2, cT, hD, hTb, hc1, hc2, -, -, hR⟩ := hst
  obtain ⟨u, hu', hO⟩ := hR.at_ HT.out
  have dc := hD.cell
  unfold stc at dc
  have dl := hD.lt
  obtain ⟨t0, t1, t2, t3, t4, t5, t6, t7⟩ := tcs hTb hu'
  have tl := hTb.lt
  obtain ⟨Ap, cp, ep⟩ := hO.pd.slice
  rw [HPD.out] at ep
  simp only [List.length_nil] at ep
  rw [ep] at t5
  obtain ⟨Al, cl, el⟩ := hO.lf.slice
  have hlfr := hO.lf
  rw [el] at t4 hlfr
  obtain ⟨q, rfl, hq, k0, k1⟩ := rc_elem (k := 8) hlfr (fun _ => rfl) (by decide) HLF.out
  have e0 : w2.cell? (q.add (0 * 8)) = some (.int .i64 o.kd) := k0
  have e1 := k1 0 _ rfl
  have e2 := k1 1 _ rfl
  have e3 := k1 2 _ rfl
  have e4 := k1 3 _ rfl
  have e5 := k1 4 _ rfl
  have e6 := k1 5 _ rfl
  have e7 := k1 6 _ rfl
  rw [Nat.zero_mul, Addr.add_zero'] at e0 e1 e2 e3 e4 e5 e6 e7
  simp only [Nat.zero_add, Nat.reduceAdd] at e1 e2 e3 e4 e5 e6 e7
  have hll : 0 < t.lf.length := by
    rcases Nat.eq_zero_or_pos t.lf.length with z | z
    · have := HLF.out
      rw [List.eq_nil_of_length_eq_zero z] at this
      cases this
    · exact z
  generalize hnl : t.lf.length = nl at *
  have HACT := Lib.hid (act_any HST.out HDK.out HKD.out (by have := (HF.out.th t (List.mem_of_getElem? HT.out)).dn; omega) (by have := HF.out.od; omega) HB2.out)
  clear hu hb1 hb2 hD hTb hc1 hc2 hR hu' hO ep el hlfr t0 t1 t2 t3 t6 t7 bc bl k0 k1 hnl
  unfold opv at HACT
  go_wp2_with (fail)
  refine HACT.out.mono ?_
  rintro e w3 ⟨⟨v, rfl⟩, hk, hfin⟩
  clear dc dl t5 t4 tl e0 e1 e2 e3 e4 e5 e6 e7 hq hll
  generalize hH : doH h j t o = H at *
  obtain ⟨P3, Q3, c3, d3, vt3, vo3, us3, j3, q3, o3, s3, hD3, hs3, hr3, hh3, ho3, hi3⟩ := hfin
  have hge := HST.out.ge
  have hzl := HBZ1.out.lt
  have hgb : w.heap.size + 1 < b := by have := HB1.out; omega
  have HBZ3 := Lib.hid (HBZ2.out.kp hk (fun q => by have := hge _ q; omega))
  have HU4 := Lib.hid (HU2.out.kp hk (fun x hx => by have := hge x hx; omega))
  have HGB := Lib.hid hgb
  obtain ⟨A3, k3, rfl, -⟩ := id hr3
  obtain ⟨A4, k4, rfl, -⟩ := id ho3
  have HFI := Lib.hid (And.intro hs3 (And.intro hr3 (And.intro hh3 (And.intro ho3 hi3))))
  have HD3 := Lib.hid hD3
  clear hk hge hzl hgb hs3 hr3 hh3 ho3 hi3 hD3
  go_upto_region 7 with fail
  refine do7_wp HD3.out HBZ3.out _ _ _ _ _ _ _ _ _ _ _ _ _ _ _ _ _ _ _ _ _ _ _ _ _ _ _ _ _ _ _ _ _ _ _ _ _ _ _ _ _ _ _ _ _ _ _ _ _ _ _ _ _ _ _ _ _ _ _ _ _ _ _ _ _ (Lib.hid ?_)
  intro y61 y62 y63 y64 w5 hb5 hk5
  have HB5 := Lib.hid hb5
  have HK5 := Lib.hid hk5
  clear hb5 hk5 HD3 HBZ1 HBZ HBH HW HW3 HST
  go_wp2_with (fail)
  refine bodyPost_ret (ret_heap rfl _ _ _ _ _ _ _ _ _ _ _ _ _ _ _ _ _ _ _ _ rfl HB5.out) rfl ?_
  obtain ⟨hs3, hr3, hh3, ho3, hi3⟩ := HFI.out
  exact ⟨_, rfl, hpR_box HBZ3.out HK5.out hs3 hr3 hh3 ho3 hi3 HGB.out, HU4.out.kp HK5.out (by simp <;> omega)⟩
theorem canB_at {h : Hp} {th : Int} (hc : canB h th = true) : 0 ≤ th ∧ th < h.th.length ∧ h.bk = 0 ∧ ∃ t, h.th[th.toNat]? = some t ∧ canT h t = true := by
  unfold canB at hc
  by_cases hin : 0 ≤ th ∧ th < h.th.length ∧ h.bk = 0
  · rw [if_pos hin] at hc
    refine ⟨hin.1, hin.2.1, hin.2.2, ?_⟩
    split at hc
    · rename_i t ht
      exact ⟨t, ht, hc⟩
    · cases hc
  · rw [if_neg hin] at hc
    cases hc
theorem canT_lf {h : Hp} {t : Th} (hc : canT h t = true) (hp : t.pd = []) : t.lf[0]? = some (t.lf.headD oz) := by
  unfold canT at hc
  rw [if_neg (by simp [hp])] at hc
  split at hc
  · cases hc
  · rename_i q
    generalize t.lf = lf at *
    cases lf with
    | nil => exact absurd (.inl rfl) q
    | cons a r => rfl
theorem do_any (h : Hp) (P Q : Addr) (c d : Nat) (vt vo : Value) (us0 : List Tv) (w : World) (hm : Sits w h.m P Q c d) (hvt : Rc tvc w vt us0) (hr : ThsR w us0 h.th) (ho : Rc inc w vo h.od) (hF : HpF h) (hG : HpG h) (th : Int) :
    Calls Tryz.prog 11 #[.agg (hpc h P Q c d vt vo), .int .i64 th] w (OutH (didH h th) w) := by
  unfold didH
  by_cases hc : canB h th = true
  · rw [if_pos hc]
    obtain ⟨h0, h1, h2, t, ht, hct⟩ := canB_at hc
    obtain ⟨j, rfl⟩ : ∃ j : Nat, th = j := ⟨th.toNat, by omega⟩
    rw [Int.toNat_natCast] at ht ⊢
    rw [ht]
    have hpl := hG.pd t (List.mem_of_getElem? ht)
    cases hp : t.pd with
    | nil =>
      simp only [hp]
      exact do_act h P Q c d vt vo us0 w hm hvt hr ho hF hG j t ht hc _ hp (canT_lf hct hp)
    | cons e r =>
      have hr0 : r = [] := by
        rw [hp] at hpl
        exact List.eq_nil_of_length_eq_zero (by simpa using hpl)
      subst hr0
      simp only [hp]
      exact do_pend h P Q c d vt vo us0 w hm hvt hr ho hF j t ht hc e hp
  · rw [if_neg hc]
    exact do_no h P Q c d vt vo us0 w hm hvt hr ho th (by simpa using hc)
end Go.Proofs.YtddoljfkbkbfjaaGreat.T
