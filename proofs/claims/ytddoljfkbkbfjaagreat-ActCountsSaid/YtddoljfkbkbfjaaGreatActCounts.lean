/- a step answers a thread once, or lets it want, or puts an entry into its log; what is answered is gone from what is left: proved for every heap and every thread. -/
import Derived.Test.YtddoljfkbkbfjaaGreatWd
import Derived.Deep.CutRange
namespace Go.Proofs.YtddoljfkbkbfjaaGreat.T.LActCounts
open G
open Go.Joins Go.ChangeShapes Go.WideShapes Go.ChangeAt Go.RowKit Go.Deep Go.Shelf Go.Maps
set_option linter.unusedVariables false
set_option linter.unusedSimpArgs false

set_option maxRecDepth 100000 in
set_option maxHeartbeats 16000000 in
theorem walk_no (C : Array Value) (th : Int) (w : World) (hs : C.size = 17) (HFEW : Hid (∀ W, Up w W → Calls Tryz.prog 10 #[.agg C] W fun e w' => e = .returned (.bool false) ∧ Up W w')) :
    Calls Tryz.prog 6 #[.agg C, .int .i64 th] w fun e w' => e = .returned (.bool true) ∧ Up w w' := by
  go_enter Tryz.func6, Tryz.ntmps6
  go_wp2_with (fail)
  refine calls_at (fun V1 hV => ?_)
  have kv : Up w V1 := by rw [hV]; (repeat (first | with_reducible exact Up.refl _ | with_reducible refine Up.alloc ?_ _ | with_reducible refine Up.drew ?_ | with_reducible refine Up.drewN ?_ _))
  have nbH : Blk V1 (w.heap.size) 32 C := by rw [hV]; (repeat (first | with_reducible exact Blk.new' _ (by simp) _ _ | with_reducible exact Blk.new _ _ _ | with_reducible refine Blk.alloc ?_ _ | with_reducible refine Blk.drew ?_))
  clear hV
  have HU_1 := Lib.hid (kv)
  clear kv
  have HBH_1 := Lib.hid nbH
  clear nbH
  refine (shown17 V1).mono ?_
  rintro e w2 ⟨rfl, k1⟩
  have HBH_2 := Lib.hid (HBH_1.out.up k1)
  have HU_2 := Lib.hid (HU_1.out.trans k1)
  clear HBH_1 HU_1
  clear k1
  go_wp2_with (with_reducible refine halt_at (o := ⟨_, Op.load 32 _, _, _, _, _⟩) ?_)
  unfold Halt
  refine heap_load (by rfl) _ rfl rfl HBH_2.out hs ?_
  go_wp2_with (fail)
  refine calls_at (fun V3 hV => ?_)
  have kv : Up w2 V3 := by rw [hV]; (repeat (first | with_reducible exact Up.refl _ | with_reducible refine Up.alloc ?_ _ | with_reducible refine Up.drew ?_ | with_reducible refine Up.drewN ?_ _))
  clear hV
  have HBH_3 := Lib.hid (HBH_2.out.up kv)
  have HU_3 := Lib.hid (HU_2.out.trans kv)
  clear HBH_2 HU_2
  clear kv
  refine (HFEW.out V3 HU_3.out).mono ?_
  rintro e w4 ⟨rfl, k3⟩
  have HBH_4 := Lib.hid (HBH_3.out.up k3)
  have HU_4 := Lib.hid (HU_3.out.trans k3)
  clear HBH_3 HU_3
  clear k3
  go_wp2
  go_ret
  exact ⟨rfl, (by (repeat (first | with_reducible exact HU_4.out | with_reducible refine Up.alloc ?_ _ | with_reducible refine Up.drew ?_ | with_reducible refine Up.drewN ?_ _)))⟩
set_option maxRecDepth 100000 in
set_option maxHeartbeats 16000000 in
theorem walk_cant (C : Array Value) (h : Hp) (th : Int) (w : World) (hs : C.size = 17) (HFEW : Hid (∀ W, Up w W → Calls Tryz.prog 10 #[.agg C] W fun e w' => e = .returned (.bool true) ∧ Up W w')) (hR : HpR w (.agg C) h) (hF : HpF h) (hG : HpG h) (hc : canB h th = false) :
    Calls Tryz.prog 6 #[.agg C, .int .i64 th] w fun e w' => e = .returned (.bool true) ∧ Up w w' := by
  have HP0 := Lib.hid (fun W (u : Up w W) => hR.up u)
  clear hR
  go_enter Tryz.func6, Tryz.ntmps6
  go_wp2_with (fail)
  refine calls_at (fun V1 hV => ?_)
  have kv : Up w V1 := by rw [hV]; (repeat (first | with_reducible exact Up.refl _ | with_reducible refine Up.alloc ?_ _ | with_reducible refine Up.drew ?_ | with_reducible refine Up.drewN ?_ _))
  have nbH : Blk V1 (w.heap.size) 32 C := by rw [hV]; (repeat (first | with_reducible exact Blk.new' _ (by simp) _ _ | with_reducible exact Blk.new _ _ _ | with_reducible refine Blk.alloc ?_ _ | with_reducible refine Blk.drew ?_))
  clear hV
  have HU_1 := Lib.hid (kv)
  clear kv
  have HBH_1 := Lib.hid nbH
  clear nbH
  refine (shown17 V1).mono ?_
  rintro e w2 ⟨rfl, k1⟩
  have HBH_2 := Lib.hid (HBH_1.out.up k1)
  have HU_2 := Lib.hid (HU_1.out.trans k1)
  clear HBH_1 HU_1
  clear k1
  go_wp2_with (with_reducible refine halt_at (o := ⟨_, Op.load 32 _, _, _, _, _⟩) ?_)
  unfold Halt
  refine heap_load (by rfl) _ rfl rfl HBH_2.out hs ?_
  go_wp2_with (fail)
  refine calls_at (fun V3 hV => ?_)
  have kv : Up w2 V3 := by rw [hV]; (repeat (first | with_reducible exact Up.refl _ | with_reducible refine Up.alloc ?_ _ | with_reducible refine Up.drew ?_ | with_reducible refine Up.drewN ?_ _))
  clear hV
  have HBH_3 := Lib.hid (HBH_2.out.up kv)
  have HU_3 := Lib.hid (HU_2.out.trans kv)
  clear HBH_2 HU_2
  clear kv
  refine (HFEW.out V3 HU_3.out).mono ?_
  rintro e w4 ⟨rfl, k3⟩
  have HBH_4 := Lib.hid (HBH_3.out.up k3)
  have HU_4 := Lib.hid (HU_3.out.trans k3)
  clear HBH_3 HU_3
  clear k3
  go_wp2_with (with_reducible refine halt_at (o := ⟨_, Op.load 32 _, _, _, _, _⟩) ?_)
  unfold Halt
  refine heap_load (by rfl) _ rfl rfl HBH_4.out hs ?_
  have hq := can_c (HP0.out _ HU_4.out) th
  rw [hc] at hq
  have HQ := Lib.hid hq
  clear hq
  go_wp2_with (fail)
  refine HQ.out.mono ?_
  rintro e wq4 ⟨rfl, kq⟩
  have HBH_5 := Lib.hid (HBH_4.out.up kq)
  have HU_5 := Lib.hid (HU_4.out.trans kq)
  clear HBH_4 HU_4
  clear kq HQ
  go_wp2
  go_ret
  exact ⟨rfl, (by (repeat (first | with_reducible exact HU_5.out | with_reducible refine Up.alloc ?_ _ | with_reducible refine Up.drew ?_ | with_reducible refine Up.drewN ?_ _)))⟩
set_option maxRecDepth 100000 in
set_option maxHeartbeats 16000000 in
theorem walk_ans (C : Array Value) (h : Hp) (j : Nat) (t t' : Th) (w : World) (hs : C.size = 17) (HFEW : Hid (∀ W, Up w W → Calls Tryz.prog 10 #[.agg C] W fun e w' => e = .returned (.bool true) ∧ Up W w')) (hR : HpR w (.agg C) h) (hF : HpF h) (hG : HpG h) (hc : canB h (j : Int) = true) (D : Df h (didH h (j : Int)) j t t')
    (hpd : t.pd = []) (hlf : ∃ n, t.lf.length = n + 1) (hlf' : t'.lf.length = t.lf.length - 1) (hdn : t'.dn.length = t.dn.length + 1) (hlg : t'.lg.length = t.lg.length) (hod : (didH h (j : Int)).od = h.od ++ [(j : Int)]) (hwt : t'.wt = false) :
    Calls Tryz.prog 6 #[.agg C, .int .i64 j] w fun e w' => e = .returned (.bool true) ∧ Up w w' := by
  have HP0 := Lib.hid (fun W (u : Up w W) => hR.up u)
  have HJ := Lib.hid D.lt
  have HTH := Lib.hid D.ht
  have HTK := Lib.hid D.at_
  have HLEN := Lib.hid D.len
  have HDO := Lib.hid (fun W (u : Up w W) => do_c (hR.up u) hF hG (j : Int))
  have HCB := Lib.hid hc
  have HDF := Lib.hid D
  clear hR hF hG D hc
  generalize didH h (j : Int) = k at *
  go_enter Tryz.func6, Tryz.ntmps6
  go_wp2_with (fail)
  refine calls_at (fun V1 hV => ?_)
  have kv : Up w V1 := by rw [hV]; (repeat (first | with_reducible exact Up.refl _ | with_reducible refine Up.alloc ?_ _ | with_reducible refine Up.drew ?_ | with_reducible refine Up.drewN ?_ _))
  have nbH : Blk V1 (w.heap.size) 32 C := by rw [hV]; (repeat (first | with_reducible exact Blk.new' _ (by simp) _ _ | with_reducible exact Blk.new _ _ _ | with_reducible refine Blk.alloc ?_ _ | with_reducible refine Blk.drew ?_))
  clear hV
  have HU_1 := Lib.hid (kv)
  clear kv
  have HBH_1 := Lib.hid nbH
  clear nbH
  refine (shown17 V1).mono ?_
  rintro e w2 ⟨rfl, k1⟩
  have HBH_2 := Lib.hid (HBH_1.out.up k1)
  have HU_2 := Lib.hid (HU_1.out.trans k1)
  clear HBH_1 HU_1
  clear k1
  go_wp2_with (with_reducible refine halt_at (o := ⟨_, Op.load 32 _, _, _, _, _⟩) ?_)
  unfold Halt
  refine heap_load (by rfl) _ rfl rfl HBH_2.out hs ?_
  go_wp2_with (fail)
  refine calls_at (fun V3 hV => ?_)
  have kv : Up w2 V3 := by rw [hV]; (repeat (first | with_reducible exact Up.refl _ | with_reducible refine Up.alloc ?_ _ | with_reducible refine Up.drew ?_ | with_reducible refine Up.drewN ?_ _))
  clear hV
  have HBH_3 := Lib.hid (HBH_2.out.up kv)
  have HU_3 := Lib.hid (HU_2.out.trans kv)
  clear HBH_2 HU_2
  clear kv
  refine (HFEW.out V3 HU_3.out).mono ?_
  rintro e w4 ⟨rfl, k3⟩
  have HBH_4 := Lib.hid (HBH_3.out.up k3)
  have HU_4 := Lib.hid (HU_3.out.trans k3)
  clear HBH_3 HU_3
  clear k3
  go_wp2_with (with_reducible refine halt_at (o := ⟨_, Op.load 32 _, _, _, _, _⟩) ?_)
  unfold Halt
  refine heap_load (by rfl) _ rfl rfl HBH_4.out hs ?_
  have hq := can_c (HP0.out _ HU_4.out) (j : Int)
  rw [HCB.out] at hq
  have HQ := Lib.hid hq
  clear hq
  go_wp2_with (fail)
  refine HQ.out.mono ?_
  rintro e wq4 ⟨rfl, kq⟩
  have HBH_5 := Lib.hid (HBH_4.out.up kq)
  have HU_5 := Lib.hid (HU_4.out.trans kq)
  clear HBH_4 HU_4
  clear kq HQ
  go_wp2_with (with_reducible refine halt_at (o := ⟨_, Op.load 32 _, _, _, _, _⟩) ?_)
  unfold Halt
  refine heap_load (by rfl) _ rfl rfl HBH_5.out hs ?_
  have HQ := Lib.hid (HDO.out _ HU_5.out)
  go_wp2_with (fail)
  refine HQ.out.mono ?_
  rintro e wd ⟨K, rfl, hk, kd⟩
  have HBH_6 := Lib.hid (HBH_5.out.up kd)
  have HU_6 := Lib.hid (HU_5.out.trans kd)
  clear HBH_5 HU_5
  have HPK_6 := Lib.hid hk
  have HPH_6 := Lib.hid (HP0.out _ HU_6.out)
  clear kd HQ hk HP0 HDO
  go_wp2_with (with_reducible refine halt_at (o := ⟨_, Op.store 32 _ _, _, _, _, _⟩) ?_)
  unfold Halt
  refine heap_new (C := K) (by rfl) _ _ rfl rfl rfl rfl (by first | rfl | simp) HPK_6.out.size rfl HPK_6.out.one ?_
  simp only [put_none]
  refine list_at (fun V7 hV => ?_)
  have kv : Up wd V7 := by rw [hV]; (repeat (first | with_reducible exact Up.refl _ | with_reducible refine Up.alloc ?_ _ | with_reducible refine Up.drew ?_ | with_reducible refine Up.drewN ?_ _))
  have nbK : Blk V7 (wd.heap.size) 32 K := by rw [hV]; (repeat (first | with_reducible exact Blk.new' _ (by simp) _ _ | with_reducible exact Blk.new _ _ _ | with_reducible refine Blk.alloc ?_ _ | with_reducible refine Blk.drew ?_))
  clear hV
  have HBH_7 := Lib.hid (HBH_6.out.up kv)
  have HPK_7 := Lib.hid (HPK_6.out.up kv)
  have HPH_7 := Lib.hid (HPH_6.out.up kv)
  have HU_7 := Lib.hid (HU_6.out.trans kv)
  clear HBH_6 HPK_6 HPH_6 HU_6
  clear kv
  have HBK_7 := Lib.hid nbK
  clear nbK
  obtain ⟨Ph, Qh, ch, dh, Ah, cth, ush, Bh, coh, Xh⟩ := HPH_7.out.x
  obtain ⟨uh, euh, Rh⟩ := Xh.t.at_ (j := j) (t := t) HTH.out
  have roh := Xh.r
  have ooh := Xh.o
  have xeh := Xh.e
  obtain ⟨Sh0, sh0, qh0⟩ := Rh.st.slice
  obtain ⟨Sh1, sh1, qh1⟩ := Rh.lg.slice
  obtain ⟨Sh2, sh2, qh2⟩ := Rh.lf.slice
  obtain ⟨Sh3, sh3, qh3⟩ := Rh.pd.slice
  obtain ⟨Sh4, sh4, qh4⟩ := Rh.dn.slice
  have mh1 := Rh.lg.max
  have mh2 := Rh.lf.max
  have mh3 := Rh.pd.max
  have mh4 := Rh.dn.max
  have mh5 := ooh.max
  have mh6 := roh.max
  unfold maxLen at mh1 mh2 mh3 mh4 mh5 mh6
  rw [show ush.length = h.th.length from Xh.t.1] at mh6
  have gwh := Rh.wt
  have gah := Rh.ba
  have gbh := Rh.be
  have HRTh := Lib.hid Rh
  clear Rh
  obtain ⟨usth, ubah, ubeh, ulgh, ulfh, updh, uwth, udnh⟩ := uh
  simp only at qh0 qh1 qh2 qh3 qh4 gwh gah gbh
  subst qh0 qh1 qh2 qh3 qh4
  obtain ⟨ph, rfl, hph, k0h, k1h⟩ := rc_elem (k := 8) roh (fun _ => rfl) (by decide) euh
  have ah0 : V7.cell? (ph.add (j * 8)) = some (.slice Sh0 t.st.length sh0) := k0h
  have ah1 := k1h 0 _ rfl
  have ah2 := k1h 1 _ rfl
  have ah3 := k1h 2 _ rfl
  have ah4 := k1h 3 _ rfl
  have ah5 := k1h 4 _ rfl
  have ah6 := k1h 5 _ rfl
  have ah7 := k1h 6 _ rfl
  simp only [Nat.zero_add, Nat.reduceAdd] at ah1 ah2 ah3 ah4 ah5 ah6 ah7
  have bh11 : V7.cell? ⟨(w.heap.size), 11, none⟩ = some (.slice (some ph) h.th.length cth) := by rw [HBH_7.out.cell, xeh]; rfl
  have bh15 : V7.cell? ⟨(w.heap.size), 15, none⟩ = some (.slice Bh h.od.length coh) := by rw [HBH_7.out.cell, xeh]; rfl
  have lh := HBH_7.out.lt
  have lph : (ph.add (j * 8)).block < V7.heap.size := by rw [block_of_add]; exact hph
  clear k0h k1h euh Xh roh xeh
  obtain ⟨Pk, Qk, ck, dk, Ak, ctk, usk, Bk, cok, Xk⟩ := HPK_7.out.x
  obtain ⟨uk, euk, Rk⟩ := Xk.t.at_ (j := j) (t := t') HTK.out
  have rok := Xk.r
  have ook := Xk.o
  have xek := Xk.e
  obtain ⟨Sk0, sk0, qk0⟩ := Rk.st.slice
  obtain ⟨Sk1, sk1, qk1⟩ := Rk.lg.slice
  obtain ⟨Sk2, sk2, qk2⟩ := Rk.lf.slice
  obtain ⟨Sk3, sk3, qk3⟩ := Rk.pd.slice
  obtain ⟨Sk4, sk4, qk4⟩ := Rk.dn.slice
  have mk1 := Rk.lg.max
  have mk2 := Rk.lf.max
  have mk3 := Rk.pd.max
  have mk4 := Rk.dn.max
  have mk5 := ook.max
  have mk6 := rok.max
  unfold maxLen at mk1 mk2 mk3 mk4 mk5 mk6
  rw [show usk.length = k.th.length from Xk.t.1] at mk6
  have gwk := Rk.wt
  have gak := Rk.ba
  have gbk := Rk.be
  have HRTk := Lib.hid Rk
  clear Rk
  obtain ⟨ustk, ubak, ubek, ulgk, ulfk, updk, uwtk, udnk⟩ := uk
  simp only at qk0 qk1 qk2 qk3 qk4 gwk gak gbk
  subst qk0 qk1 qk2 qk3 qk4
  obtain ⟨pk, rfl, hpk, k0k, k1k⟩ := rc_elem (k := 8) rok (fun _ => rfl) (by decide) euk
  have ak0 : V7.cell? (pk.add (j * 8)) = some (.slice Sk0 t'.st.length sk0) := k0k
  have ak1 := k1k 0 _ rfl
  have ak2 := k1k 1 _ rfl
  have ak3 := k1k 2 _ rfl
  have ak4 := k1k 3 _ rfl
  have ak5 := k1k 4 _ rfl
  have ak6 := k1k 5 _ rfl
  have ak7 := k1k 6 _ rfl
  simp only [Nat.zero_add, Nat.reduceAdd] at ak1 ak2 ak3 ak4 ak5 ak6 ak7
  have bk11 : V7.cell? ⟨(wd.heap.size), 11, none⟩ = some (.slice (some pk) k.th.length ctk) := by rw [HBK_7.out.cell, xek]; rfl
  have bk15 : V7.cell? ⟨(wd.heap.size), 15, none⟩ = some (.slice Bk k.od.length cok) := by rw [HBK_7.out.cell, xek]; rfl
  have lk := HBK_7.out.lt
  have lpk : (pk.add (j * 8)).block < V7.heap.size := by rw [block_of_add]; exact hpk
  clear k0k k1k euk Xk rok xek
  rw [HLEN.out] at bk11
  obtain ⟨na, ena⟩ : ∃ n, t.dn.length = n := ⟨_, rfl⟩
  obtain ⟨ng, eng⟩ : ∃ n, t.lg.length = n := ⟨_, rfl⟩
  obtain ⟨no, eno⟩ : ∃ n, h.od.length = n := ⟨_, rfl⟩
  obtain ⟨nt, ent⟩ : ∃ n, h.th.length = n := ⟨_, rfl⟩
  obtain ⟨m, em⟩ : ∃ n, t.lf.length = n + 1 := hlf
  have f1 : t'.dn.length = na + 1 := by rw [hdn, ena]
  have f2 : t'.lf.length = m := by rw [hlf', em]; rfl
  have f3 : t'.lg.length = ng := by rw [hlg, eng]
  have f4 : k.od.length = no + 1 := by rw [hod, List.length_append, eno]; rfl
  have f5 : t.pd.length = 0 := by rw [hpd]; rfl
  rw [ena] at ah7
  rw [em] at ah4
  rw [eng] at ah3
  rw [f5] at ah5
  rw [eno] at bh15
  rw [ent] at bh11 bk11
  rw [f1] at ak7
  rw [f2] at ak4
  rw [f3] at ak3
  rw [f4] at bk15
  have hj : j < nt := by rw [← ent]; exact HJ.out
  have n5 : nt ≤ 9223372036854775807 := by rw [ent] at mh6; omega
  have ook2 := ook
  rw [f4, hod] at ook2
  have hmx := mk5
  rw [f4] at hmx
  have n1 : no + 1 ≤ 9223372036854775807 := by omega
  have n2 : na + 1 ≤ 9223372036854775807 := by rw [f1] at mk4; omega
  have n3 : m + 1 ≤ 9223372036854775807 := by rw [em] at mh2; omega
  have n4 : ng ≤ 9223372036854775807 := by rw [eng] at mh1; omega
  obtain ⟨po, ep, hpo, ko⟩ := Rc.at_ (k := 1) (j := no) (x := (j : Int)) ook2 (fun _ => rfl) (by decide) (by rw [← eno]; simp)
  have o0 := ko 0 _ rfl
  rw [Nat.mul_one, Nat.add_zero] at o0
  subst ep
  have lpo : (po.add no).block < V7.heap.size := by rw [block_of_add]; exact hpo
  have w1' : uwtk = false := by rw [gwk]; exact hwt
  subst w1'
  clear ena eng eno ent em f1 f2 f3 f4 f5 hlf' hdn hlg hod hpd ook2 ook ooh hmx mh1 mh2 mh3 mh4 mh5 mh6 mk1 mk2 mk3 mk4 mk5 mk6 gwh gah gbh gwk gak gbk hpk hph ko hpo hwt
  generalize t'.pd.length = z3 at *
  generalize t.st.length = z1 at *
  generalize t'.st.length = z2 at *
  go_wp2
  go_ret
  exact ⟨rfl, (by (repeat (first | with_reducible exact HU_7.out | with_reducible refine Up.alloc ?_ _ | with_reducible refine Up.drew ?_ | with_reducible refine Up.drewN ?_ _)))⟩
set_option maxRecDepth 100000 in
set_option maxHeartbeats 16000000 in
theorem walk_want (C : Array Value) (h : Hp) (j : Nat) (t t' : Th) (w : World) (hs : C.size = 17) (HFEW : Hid (∀ W, Up w W → Calls Tryz.prog 10 #[.agg C] W fun e w' => e = .returned (.bool true) ∧ Up W w')) (hR : HpR w (.agg C) h) (hF : HpF h) (hG : HpG h) (hc : canB h (j : Int) = true) (D : Df h (didH h (j : Int)) j t t')
    (hpd : t.pd = []) (hlf' : t'.lf.length = t.lf.length) (hdn : t'.dn.length = t.dn.length) (hlg : t'.lg.length = t.lg.length) (hod : (didH h (j : Int)).od = h.od) (hwt : t'.wt = true) :
    Calls Tryz.prog 6 #[.agg C, .int .i64 j] w fun e w' => e = .returned (.bool true) ∧ Up w w' := by
  have HP0 := Lib.hid (fun W (u : Up w W) => hR.up u)
  have HJ := Lib.hid D.lt
  have HTH := Lib.hid D.ht
  have HTK := Lib.hid D.at_
  have HLEN := Lib.hid D.len
  have HDO := Lib.hid (fun W (u : Up w W) => do_c (hR.up u) hF hG (j : Int))
  have HCB := Lib.hid hc
  have HDF := Lib.hid D
  clear hR hF hG D hc
  generalize didH h (j : Int) = k at *
  go_enter Tryz.func6, Tryz.ntmps6
  go_wp2_with (fail)
  refine calls_at (fun V1 hV => ?_)
  have kv : Up w V1 := by rw [hV]; (repeat (first | with_reducible exact Up.refl _ | with_reducible refine Up.alloc ?_ _ | with_reducible refine Up.drew ?_ | with_reducible refine Up.drewN ?_ _))
  have nbH : Blk V1 (w.heap.size) 32 C := by rw [hV]; (repeat (first | with_reducible exact Blk.new' _ (by simp) _ _ | with_reducible exact Blk.new _ _ _ | with_reducible refine Blk.alloc ?_ _ | with_reducible refine Blk.drew ?_))
  clear hV
  have HU_1 := Lib.hid (kv)
  clear kv
  have HBH_1 := Lib.hid nbH
  clear nbH
  refine (shown17 V1).mono ?_
  rintro e w2 ⟨rfl, k1⟩
  have HBH_2 := Lib.hid (HBH_1.out.up k1)
  have HU_2 := Lib.hid (HU_1.out.trans k1)
  clear HBH_1 HU_1
  clear k1
  go_wp2_with (with_reducible refine halt_at (o := ⟨_, Op.load 32 _, _, _, _, _⟩) ?_)
  unfold Halt
  refine heap_load (by rfl) _ rfl rfl HBH_2.out hs ?_
  go_wp2_with (fail)
  refine calls_at (fun V3 hV => ?_)
  have kv : Up w2 V3 := by rw [hV]; (repeat (first | with_reducible exact Up.refl _ | with_reducible refine Up.alloc ?_ _ | with_reducible refine Up.drew ?_ | with_reducible refine Up.drewN ?_ _))
  clear hV
  have HBH_3 := Lib.hid (HBH_2.out.up kv)
  have HU_3 := Lib.hid (HU_2.out.trans kv)
  clear HBH_2 HU_2
  clear kv
  refine (HFEW.out V3 HU_3.out).mono ?_
  rintro e w4 ⟨rfl, k3⟩
  have HBH_4 := Lib.hid (HBH_3.out.up k3)
  have HU_4 := Lib.hid (HU_3.out.trans k3)
  clear HBH_3 HU_3
  clear k3
  go_wp2_with (with_reducible refine halt_at (o := ⟨_, Op.load 32 _, _, _, _, _⟩) ?_)
  unfold Halt
  refine heap_load (by rfl) _ rfl rfl HBH_4.out hs ?_
  have hq := can_c (HP0.out _ HU_4.out) (j : Int)
  rw [HCB.out] at hq
  have HQ := Lib.hid hq
  clear hq
  go_wp2_with (fail)
  refine HQ.out.mono ?_
  rintro e wq4 ⟨rfl, kq⟩
  have HBH_5 := Lib.hid (HBH_4.out.up kq)
  have HU_5 := Lib.hid (HU_4.out.trans kq)
  clear HBH_4 HU_4
  clear kq HQ
  go_wp2_with (with_reducible refine halt_at (o := ⟨_, Op.load 32 _, _, _, _, _⟩) ?_)
  unfold Halt
  refine heap_load (by rfl) _ rfl rfl HBH_5.out hs ?_
  have HQ := Lib.hid (HDO.out _ HU_5.out)
  go_wp2_with (fail)
  refine HQ.out.mono ?_
  rintro e wd ⟨K, rfl, hk, kd⟩
  have HBH_6 := Lib.hid (HBH_5.out.up kd)
  have HU_6 := Lib.hid (HU_5.out.trans kd)
  clear HBH_5 HU_5
  have HPK_6 := Lib.hid hk
  have HPH_6 := Lib.hid (HP0.out _ HU_6.out)
  clear kd HQ hk HP0 HDO
  go_wp2_with (with_reducible refine halt_at (o := ⟨_, Op.store 32 _ _, _, _, _, _⟩) ?_)
  unfold Halt
  refine heap_new (C := K) (by rfl) _ _ rfl rfl rfl rfl (by first | rfl | simp) HPK_6.out.size rfl HPK_6.out.one ?_
  simp only [put_none]
  refine list_at (fun V7 hV => ?_)
  have kv : Up wd V7 := by rw [hV]; (repeat (first | with_reducible exact Up.refl _ | with_reducible refine Up.alloc ?_ _ | with_reducible refine Up.drew ?_ | with_reducible refine Up.drewN ?_ _))
  have nbK : Blk V7 (wd.heap.size) 32 K := by rw [hV]; (repeat (first | with_reducible exact Blk.new' _ (by simp) _ _ | with_reducible exact Blk.new _ _ _ | with_reducible refine Blk.alloc ?_ _ | with_reducible refine Blk.drew ?_))
  clear hV
  have HBH_7 := Lib.hid (HBH_6.out.up kv)
  have HPK_7 := Lib.hid (HPK_6.out.up kv)
  have HPH_7 := Lib.hid (HPH_6.out.up kv)
  have HU_7 := Lib.hid (HU_6.out.trans kv)
  clear HBH_6 HPK_6 HPH_6 HU_6
  clear kv
  have HBK_7 := Lib.hid nbK
  clear nbK
  obtain ⟨Ph, Qh, ch, dh, Ah, cth, ush, Bh, coh, Xh⟩ := HPH_7.out.x
  obtain ⟨uh, euh, Rh⟩ := Xh.t.at_ (j := j) (t := t) HTH.out
  have roh := Xh.r
  have ooh := Xh.o
  have xeh := Xh.e
  obtain ⟨Sh0, sh0, qh0⟩ := Rh.st.slice
  obtain ⟨Sh1, sh1, qh1⟩ := Rh.lg.slice
  obtain ⟨Sh2, sh2, qh2⟩ := Rh.lf.slice
  obtain ⟨Sh3, sh3, qh3⟩ := Rh.pd.slice
  obtain ⟨Sh4, sh4, qh4⟩ := Rh.dn.slice
  have mh1 := Rh.lg.max
  have mh2 := Rh.lf.max
  have mh3 := Rh.pd.max
  have mh4 := Rh.dn.max
  have mh5 := ooh.max
  have mh6 := roh.max
  unfold maxLen at mh1 mh2 mh3 mh4 mh5 mh6
  rw [show ush.length = h.th.length from Xh.t.1] at mh6
  have gwh := Rh.wt
  have gah := Rh.ba
  have gbh := Rh.be
  have HRTh := Lib.hid Rh
  clear Rh
  obtain ⟨usth, ubah, ubeh, ulgh, ulfh, updh, uwth, udnh⟩ := uh
  simp only at qh0 qh1 qh2 qh3 qh4 gwh gah gbh
  subst qh0 qh1 qh2 qh3 qh4
  obtain ⟨ph, rfl, hph, k0h, k1h⟩ := rc_elem (k := 8) roh (fun _ => rfl) (by decide) euh
  have ah0 : V7.cell? (ph.add (j * 8)) = some (.slice Sh0 t.st.length sh0) := k0h
  have ah1 := k1h 0 _ rfl
  have ah2 := k1h 1 _ rfl
  have ah3 := k1h 2 _ rfl
  have ah4 := k1h 3 _ rfl
  have ah5 := k1h 4 _ rfl
  have ah6 := k1h 5 _ rfl
  have ah7 := k1h 6 _ rfl
  simp only [Nat.zero_add, Nat.reduceAdd] at ah1 ah2 ah3 ah4 ah5 ah6 ah7
  have bh11 : V7.cell? ⟨(w.heap.size), 11, none⟩ = some (.slice (some ph) h.th.length cth) := by rw [HBH_7.out.cell, xeh]; rfl
  have bh15 : V7.cell? ⟨(w.heap.size), 15, none⟩ = some (.slice Bh h.od.length coh) := by rw [HBH_7.out.cell, xeh]; rfl
  have lh := HBH_7.out.lt
  have lph : (ph.add (j * 8)).block < V7.heap.size := by rw [block_of_add]; exact hph
  clear k0h k1h euh Xh roh xeh
  obtain ⟨Pk, Qk, ck, dk, Ak, ctk, usk, Bk, cok, Xk⟩ := HPK_7.out.x
  obtain ⟨uk, euk, Rk⟩ := Xk.t.at_ (j := j) (t := t') HTK.out
  have rok := Xk.r
  have ook := Xk.o
  have xek := Xk.e
  obtain ⟨Sk0, sk0, qk0⟩ := Rk.st.slice
  obtain ⟨Sk1, sk1, qk1⟩ := Rk.lg.slice
  obtain ⟨Sk2, sk2, qk2⟩ := Rk.lf.slice
  obtain ⟨Sk3, sk3, qk3⟩ := Rk.pd.slice
  obtain ⟨Sk4, sk4, qk4⟩ := Rk.dn.slice
  have mk1 := Rk.lg.max
  have mk2 := Rk.lf.max
  have mk3 := Rk.pd.max
  have mk4 := Rk.dn.max
  have mk5 := ook.max
  have mk6 := rok.max
  unfold maxLen at mk1 mk2 mk3 mk4 mk5 mk6
  rw [show usk.length = k.th.length from Xk.t.1] at mk6
  have gwk := Rk.wt
  have gak := Rk.ba
  have gbk := Rk.be
  have HRTk := Lib.hid Rk
  clear Rk
  obtain ⟨ustk, ubak, ubek, ulgk, ulfk, updk, uwtk, udnk⟩ := uk
  simp only at qk0 qk1 qk2 qk3 qk4 gwk gak gbk
  subst qk0 qk1 qk2 qk3 qk4
  obtain ⟨pk, rfl, hpk, k0k, k1k⟩ := rc_elem (k := 8) rok (fun _ => rfl) (by decide) euk
  have ak0 : V7.cell? (pk.add (j * 8)) = some (.slice Sk0 t'.st.length sk0) := k0k
  have ak1 := k1k 0 _ rfl
  have ak2 := k1k 1 _ rfl
  have ak3 := k1k 2 _ rfl
  have ak4 := k1k 3 _ rfl
  have ak5 := k1k 4 _ rfl
  have ak6 := k1k 5 _ rfl
  have ak7 := k1k 6 _ rfl
  simp only [Nat.zero_add, Nat.reduceAdd] at ak1 ak2 ak3 ak4 ak5 ak6 ak7
  have bk11 : V7.cell? ⟨(wd.heap.size), 11, none⟩ = some (.slice (some pk) k.th.length ctk) := by rw [HBK_7.out.cell, xek]; rfl
  have bk15 : V7.cell? ⟨(wd.heap.size), 15, none⟩ = some (.slice Bk k.od.length cok) := by rw [HBK_7.out.cell, xek]; rfl
  have lk := HBK_7.out.lt
  have lpk : (pk.add (j * 8)).block < V7.heap.size := by rw [block_of_add]; exact hpk
  clear k0k k1k euk Xk rok xek
  rw [HLEN.out] at bk11
  obtain ⟨na, ena⟩ : ∃ n, t.dn.length = n := ⟨_, rfl⟩
  obtain ⟨ng, eng⟩ : ∃ n, t.lg.length = n := ⟨_, rfl⟩
  obtain ⟨no, eno⟩ : ∃ n, h.od.length = n := ⟨_, rfl⟩
  obtain ⟨nt, ent⟩ : ∃ n, h.th.length = n := ⟨_, rfl⟩
  obtain ⟨m, em⟩ : ∃ n, t.lf.length = n := ⟨_, rfl⟩
  have f1 : t'.dn.length = na := by rw [hdn, ena]
  have f2 : t'.lf.length = m := by rw [hlf', em]
  have f3 : t'.lg.length = ng := by rw [hlg, eng]
  have f4 : k.od.length = no := by rw [hod, eno]
  have f5 : t.pd.length = 0 := by rw [hpd]; rfl
  rw [ena] at ah7
  rw [em] at ah4
  rw [eng] at ah3
  rw [f5] at ah5
  rw [eno] at bh15
  rw [ent] at bh11 bk11
  rw [f1] at ak7
  rw [f2] at ak4
  rw [f3] at ak3
  rw [f4] at bk15
  have hj : j < nt := by rw [← ent]; exact HJ.out
  have n5 : nt ≤ 9223372036854775807 := by rw [ent] at mh6; omega
  have n1 : no ≤ 9223372036854775807 := by rw [eno] at mh5; omega
  have n2 : na ≤ 9223372036854775807 := by rw [f1] at mk4; omega
  have n3 : m ≤ 9223372036854775807 := by rw [em] at mh2; omega
  have n4 : ng ≤ 9223372036854775807 := by rw [eng] at mh1; omega
  have w1' : uwtk = true := by rw [gwk]; exact hwt
  subst w1'
  clear ena eng eno ent em f1 f2 f3 f4 f5 hlf' hdn hlg hod hpd ook ooh mh1 mh2 mh3 mh4 mh5 mh6 mk1 mk2 mk3 mk4 mk5 mk6 gwh gah gbh gwk gak gbk hpk hph hwt
  generalize t'.pd.length = z3 at *
  generalize t.st.length = z1 at *
  generalize t'.st.length = z2 at *
  go_wp2
  go_ret
  exact ⟨rfl, (by (repeat (first | with_reducible exact HU_7.out | with_reducible refine Up.alloc ?_ _ | with_reducible refine Up.drew ?_ | with_reducible refine Up.drewN ?_ _)))⟩
set_option maxRecDepth 100000 in
set_option maxHeartbeats 16000000 in
theorem walk_log (C : Array Value) (h : Hp) (j : Nat) (t t' : Th) (w : World) (hs : C.size = 17) (HFEW : Hid (∀ W, Up w W → Calls Tryz.prog 10 #[.agg C] W fun e w' => e = .returned (.bool true) ∧ Up W w')) (hR : HpR w (.agg C) h) (hF : HpF h) (hG : HpG h) (hc : canB h (j : Int) = true) (D : Df h (didH h (j : Int)) j t t')
    (hpd : t.pd.length = 1) (hpd' : t'.pd.length = 0) (hlf' : t'.lf.length = t.lf.length) (hdn : t'.dn.length = t.dn.length) (hlg : t'.lg.length = t.lg.length + 1) (hod : (didH h (j : Int)).od = h.od) :
    Calls Tryz.prog 6 #[.agg C, .int .i64 j] w fun e w' => e = .returned (.bool true) ∧ Up w w' := by
  have HP0 := Lib.hid (fun W (u : Up w W) => hR.up u)
  have HJ := Lib.hid D.lt
  have HTH := Lib.hid D.ht
  have HTK := Lib.hid D.at_
  have HLEN := Lib.hid D.len
  have HDO := Lib.hid (fun W (u : Up w W) => do_c (hR.up u) hF hG (j : Int))
  have HCB := Lib.hid hc
  have HDF := Lib.hid D
  clear hR hF hG D hc
  generalize didH h (j : Int) = k at *
  go_enter Tryz.func6, Tryz.ntmps6
  go_wp2_with (fail)
  refine calls_at (fun V1 hV => ?_)
  have kv : Up w V1 := by rw [hV]; (repeat (first | with_reducible exact Up.refl _ | with_reducible refine Up.alloc ?_ _ | with_reducible refine Up.drew ?_ | with_reducible refine Up.drewN ?_ _))
  have nbH : Blk V1 (w.heap.size) 32 C := by rw [hV]; (repeat (first | with_reducible exact Blk.new' _ (by simp) _ _ | with_reducible exact Blk.new _ _ _ | with_reducible refine Blk.alloc ?_ _ | with_reducible refine Blk.drew ?_))
  clear hV
  have HU_1 := Lib.hid (kv)
  clear kv
  have HBH_1 := Lib.hid nbH
  clear nbH
  refine (shown17 V1).mono ?_
  rintro e w2 ⟨rfl, k1⟩
  have HBH_2 := Lib.hid (HBH_1.out.up k1)
  have HU_2 := Lib.hid (HU_1.out.trans k1)
  clear HBH_1 HU_1
  clear k1
  go_wp2_with (with_reducible refine halt_at (o := ⟨_, Op.load 32 _, _, _, _, _⟩) ?_)
  unfold Halt
  refine heap_load (by rfl) _ rfl rfl HBH_2.out hs ?_
  go_wp2_with (fail)
  refine calls_at (fun V3 hV => ?_)
  have kv : Up w2 V3 := by rw [hV]; (repeat (first | with_reducible exact Up.refl _ | with_reducible refine Up.alloc ?_ _ | with_reducible refine Up.drew ?_ | with_reducible refine Up.drewN ?_ _))
  clear hV
  have HBH_3 := Lib.hid (HBH_2.out.up kv)
  have HU_3 := Lib.hid (HU_2.out.trans kv)
  clear HBH_2 HU_2
  clear kv
  refine (HFEW.out V3 HU_3.out).mono ?_
  rintro e w4 ⟨rfl, k3⟩
  have HBH_4 := Lib.hid (HBH_3.out.up k3)
  have HU_4 := Lib.hid (HU_3.out.trans k3)
  clear HBH_3 HU_3
  clear k3
  go_wp2_with (with_reducible refine halt_at (o := ⟨_, Op.load 32 _, _, _, _, _⟩) ?_)
  unfold Halt
  refine heap_load (by rfl) _ rfl rfl HBH_4.out hs ?_
  have hq := can_c (HP0.out _ HU_4.out) (j : Int)
  rw [HCB.out] at hq
  have HQ := Lib.hid hq
  clear hq
  go_wp2_with (fail)
  refine HQ.out.mono ?_
  rintro e wq4 ⟨rfl, kq⟩
  have HBH_5 := Lib.hid (HBH_4.out.up kq)
  have HU_5 := Lib.hid (HU_4.out.trans kq)
  clear HBH_4 HU_4
  clear kq HQ
  go_wp2_with (with_reducible refine halt_at (o := ⟨_, Op.load 32 _, _, _, _, _⟩) ?_)
  unfold Halt
  refine heap_load (by rfl) _ rfl rfl HBH_5.out hs ?_
  have HQ := Lib.hid (HDO.out _ HU_5.out)
  go_wp2_with (fail)
  refine HQ.out.mono ?_
  rintro e wd ⟨K, rfl, hk, kd⟩
  have HBH_6 := Lib.hid (HBH_5.out.up kd)
  have HU_6 := Lib.hid (HU_5.out.trans kd)
  clear HBH_5 HU_5
  have HPK_6 := Lib.hid hk
  have HPH_6 := Lib.hid (HP0.out _ HU_6.out)
  clear kd HQ hk HP0 HDO
  go_wp2_with (with_reducible refine halt_at (o := ⟨_, Op.store 32 _ _, _, _, _, _⟩) ?_)
  unfold Halt
  refine heap_new (C := K) (by rfl) _ _ rfl rfl rfl rfl (by first | rfl | simp) HPK_6.out.size rfl HPK_6.out.one ?_
  simp only [put_none]
  refine list_at (fun V7 hV => ?_)
  have kv : Up wd V7 := by rw [hV]; (repeat (first | with_reducible exact Up.refl _ | with_reducible refine Up.alloc ?_ _ | with_reducible refine Up.drew ?_ | with_reducible refine Up.drewN ?_ _))
  have nbK : Blk V7 (wd.heap.size) 32 K := by rw [hV]; (repeat (first | with_reducible exact Blk.new' _ (by simp) _ _ | with_reducible exact Blk.new _ _ _ | with_reducible refine Blk.alloc ?_ _ | with_reducible refine Blk.drew ?_))
  clear hV
  have HBH_7 := Lib.hid (HBH_6.out.up kv)
  have HPK_7 := Lib.hid (HPK_6.out.up kv)
  have HPH_7 := Lib.hid (HPH_6.out.up kv)
  have HU_7 := Lib.hid (HU_6.out.trans kv)
  clear HBH_6 HPK_6 HPH_6 HU_6
  clear kv
  have HBK_7 := Lib.hid nbK
  clear nbK
  obtain ⟨Ph, Qh, ch, dh, Ah, cth, ush, Bh, coh, Xh⟩ := HPH_7.out.x
  obtain ⟨uh, euh, Rh⟩ := Xh.t.at_ (j := j) (t := t) HTH.out
  have roh := Xh.r
  have ooh := Xh.o
  have xeh := Xh.e
  obtain ⟨Sh0, sh0, qh0⟩ := Rh.st.slice
  obtain ⟨Sh1, sh1, qh1⟩ := Rh.lg.slice
  obtain ⟨Sh2, sh2, qh2⟩ := Rh.lf.slice
  obtain ⟨Sh3, sh3, qh3⟩ := Rh.pd.slice
  obtain ⟨Sh4, sh4, qh4⟩ := Rh.dn.slice
  have mh1 := Rh.lg.max
  have mh2 := Rh.lf.max
  have mh3 := Rh.pd.max
  have mh4 := Rh.dn.max
  have mh5 := ooh.max
  have mh6 := roh.max
  unfold maxLen at mh1 mh2 mh3 mh4 mh5 mh6
  rw [show ush.length = h.th.length from Xh.t.1] at mh6
  have gwh := Rh.wt
  have gah := Rh.ba
  have gbh := Rh.be
  have HRTh := Lib.hid Rh
  clear Rh
  obtain ⟨usth, ubah, ubeh, ulgh, ulfh, updh, uwth, udnh⟩ := uh
  simp only at qh0 qh1 qh2 qh3 qh4 gwh gah gbh
  subst qh0 qh1 qh2 qh3 qh4
  obtain ⟨ph, rfl, hph, k0h, k1h⟩ := rc_elem (k := 8) roh (fun _ => rfl) (by decide) euh
  have ah0 : V7.cell? (ph.add (j * 8)) = some (.slice Sh0 t.st.length sh0) := k0h
  have ah1 := k1h 0 _ rfl
  have ah2 := k1h 1 _ rfl
  have ah3 := k1h 2 _ rfl
  have ah4 := k1h 3 _ rfl
  have ah5 := k1h 4 _ rfl
  have ah6 := k1h 5 _ rfl
  have ah7 := k1h 6 _ rfl
  simp only [Nat.zero_add, Nat.reduceAdd] at ah1 ah2 ah3 ah4 ah5 ah6 ah7
  have bh11 : V7.cell? ⟨(w.heap.size), 11, none⟩ = some (.slice (some ph) h.th.length cth) := by rw [HBH_7.out.cell, xeh]; rfl
  have bh15 : V7.cell? ⟨(w.heap.size), 15, none⟩ = some (.slice Bh h.od.length coh) := by rw [HBH_7.out.cell, xeh]; rfl
  have lh := HBH_7.out.lt
  have lph : (ph.add (j * 8)).block < V7.heap.size := by rw [block_of_add]; exact hph
  clear k0h k1h euh Xh roh xeh
  obtain ⟨Pk, Qk, ck, dk, Ak, ctk, usk, Bk, cok, Xk⟩ := HPK_7.out.x
  obtain ⟨uk, euk, Rk⟩ := Xk.t.at_ (j := j) (t := t') HTK.out
  have rok := Xk.r
  have ook := Xk.o
  have xek := Xk.e
  obtain ⟨Sk0, sk0, qk0⟩ := Rk.st.slice
  obtain ⟨Sk1, sk1, qk1⟩ := Rk.lg.slice
  obtain ⟨Sk2, sk2, qk2⟩ := Rk.lf.slice
  obtain ⟨Sk3, sk3, qk3⟩ := Rk.pd.slice
  obtain ⟨Sk4, sk4, qk4⟩ := Rk.dn.slice
  have mk1 := Rk.lg.max
  have mk2 := Rk.lf.max
  have mk3 := Rk.pd.max
  have mk4 := Rk.dn.max
  have mk5 := ook.max
  have mk6 := rok.max
  unfold maxLen at mk1 mk2 mk3 mk4 mk5 mk6
  rw [show usk.length = k.th.length from Xk.t.1] at mk6
  have gwk := Rk.wt
  have gak := Rk.ba
  have gbk := Rk.be
  have HRTk := Lib.hid Rk
  clear Rk
  obtain ⟨ustk, ubak, ubek, ulgk, ulfk, updk, uwtk, udnk⟩ := uk
  simp only at qk0 qk1 qk2 qk3 qk4 gwk gak gbk
  subst qk0 qk1 qk2 qk3 qk4
  obtain ⟨pk, rfl, hpk, k0k, k1k⟩ := rc_elem (k := 8) rok (fun _ => rfl) (by decide) euk
  have ak0 : V7.cell? (pk.add (j * 8)) = some (.slice Sk0 t'.st.length sk0) := k0k
  have ak1 := k1k 0 _ rfl
  have ak2 := k1k 1 _ rfl
  have ak3 := k1k 2 _ rfl
  have ak4 := k1k 3 _ rfl
  have ak5 := k1k 4 _ rfl
  have ak6 := k1k 5 _ rfl
  have ak7 := k1k 6 _ rfl
  simp only [Nat.zero_add, Nat.reduceAdd] at ak1 ak2 ak3 ak4 ak5 ak6 ak7
  have bk11 : V7.cell? ⟨(wd.heap.size), 11, none⟩ = some (.slice (some pk) k.th.length ctk) := by rw [HBK_7.out.cell, xek]; rfl
  have bk15 : V7.cell? ⟨(wd.heap.size), 15, none⟩ = some (.slice Bk k.od.length cok) := by rw [HBK_7.out.cell, xek]; rfl
  have lk := HBK_7.out.lt
  have lpk : (pk.add (j * 8)).block < V7.heap.size := by rw [block_of_add]; exact hpk
  clear k0k k1k euk Xk rok xek
  rw [HLEN.out] at bk11
  obtain ⟨na, ena⟩ : ∃ n, t.dn.length = n := ⟨_, rfl⟩
  obtain ⟨ng, eng⟩ : ∃ n, t.lg.length = n := ⟨_, rfl⟩
  obtain ⟨no, eno⟩ : ∃ n, h.od.length = n := ⟨_, rfl⟩
  obtain ⟨nt, ent⟩ : ∃ n, h.th.length = n := ⟨_, rfl⟩
  obtain ⟨m, em⟩ : ∃ n, t.lf.length = n := ⟨_, rfl⟩
  have f1 : t'.dn.length = na := by rw [hdn, ena]
  have f2 : t'.lf.length = m := by rw [hlf', em]
  have f3 : t'.lg.length = ng + 1 := by rw [hlg, eng]
  have f4 : k.od.length = no := by rw [hod, eno]
  have f5 : t.pd.length = 1 := hpd
  rw [hpd'] at ak5
  rw [ena] at ah7
  rw [em] at ah4
  rw [eng] at ah3
  rw [f5] at ah5
  rw [eno] at bh15
  rw [ent] at bh11 bk11
  rw [f1] at ak7
  rw [f2] at ak4
  rw [f3] at ak3
  rw [f4] at bk15
  have hj : j < nt := by rw [← ent]; exact HJ.out
  have n5 : nt ≤ 9223372036854775807 := by rw [ent] at mh6; omega
  have n1 : no ≤ 9223372036854775807 := by rw [eno] at mh5; omega
  have n2 : na ≤ 9223372036854775807 := by rw [f1] at mk4; omega
  have n3 : m ≤ 9223372036854775807 := by rw [em] at mh2; omega
  have n4 : ng + 1 ≤ 9223372036854775807 := by rw [f3] at mk1; omega
  clear ena eng eno ent em f1 f2 f3 f4 f5 hlf' hdn hlg hod hpd hpd' ook ooh mh1 mh2 mh3 mh4 mh5 mh6 mk1 mk2 mk3 mk4 mk5 mk6 gwh gah gbh gwk gak gbk hpk hph
  generalize t.st.length = z1 at *
  generalize t'.st.length = z2 at *
  go_wp2
  go_ret
  exact ⟨rfl, (by (repeat (first | with_reducible exact HU_7.out | with_reducible refine Up.alloc ?_ _ | with_reducible refine Up.drew ?_ | with_reducible refine Up.drewN ?_ _)))⟩
set_option maxRecDepth 100000 in
set_option maxHeartbeats 16000000 in
theorem walk {C : Array Value} {B : Nat} {L : Prop} {N : Int} {A0 A1 : Option Addr} {n0 n1 c0 c1 : Nat} {h : Hp} {vt vo : Value} {us : List Tv} (th : Int) (w : World) (hA : HeapAt w C B L N A0 A1 n0 n1 c0 c1 h vt vo us) (hL : L) :
    Calls Tryz.prog 6 #[.agg C, .int .i64 th] w fun e w' => e = .returned (.bool true) ∧ Up w w' := by
  have HF := hA.few
  by_cases hf : fewH N n0 n1 h = true
  · rw [hf] at HF
    obtain ⟨r, hN, hNn, hR, hG, hF0⟩ := hA.hp hf
    have hF := hF0 hL
    by_cases hc : canB h th = true
    · obtain ⟨j, t, t', rfl, hbk, hct, D, cs⟩ := did_cases hF hG hc
      have hw : t.pd = [] → t.wt = false := fun hp => by
        unfold canT at hct
        rw [if_neg (by simp [hp])] at hct
        split at hct
        · cases hct
        · rename_i q
          cases hq : t.wt with
          | false => rfl
          | true => exact absurd (.inr (.inl hq)) q
      rcases cs with ⟨e, h1, h2, h3, h4, h5⟩ | ⟨o, t1, h1, h2, h3, h4, h5, h6, h7⟩ | ⟨o, t1, x, h1, h2, hx, h3, hn, h4, h5, h6, h7⟩
      · exact walk_log C h j t t' w hA.size (Lib.hid HF) hR hF hG hc D (by rw [h1]; rfl) (by rw [h2]; rfl) (by rw [h2]) (by rw [h2]) (by rw [h2]; simp) h3
      · exact walk_want C h j t t' w hA.size (Lib.hid HF) hR hF hG hc D h1 (by rw [h4]; exact congrArg _ h3.lf) (by rw [h4]; exact congrArg _ h3.dn) (by rw [h4]; exact congrArg _ h3.lg) h5 (by rw [h4])
      · refine walk_ans C h j t t' w hA.size (Lib.hid HF) hR hF hG hc D h1 ?_ (by rw [h4]; show (t1.lf.drop 1).length = _; rw [h3.lf, List.length_drop]) (by rw [h4]; show (t1.dn ++ [_]).length = _; rw [h3.dn, List.length_append]; rfl) (by rw [h4]; exact congrArg _ h3.lg) h5 (by rw [h4]; exact h3.wt.trans (hw h1))
        rcases Nat.eq_zero_or_pos t.lf.length with z | z
        · rw [List.eq_nil_of_length_eq_zero z] at h2; cases h2
        · exact ⟨t.lf.length - 1, by omega⟩
    · exact walk_cant C h th w hA.size (Lib.hid HF) hR hF hG (by simpa using hc)
  · have hf' : fewH N n0 n1 h = false := by simpa using hf
    rw [hf'] at HF
    exact walk_no C th w hA.size (Lib.hid HF)
theorem own : ownKnob Tryz.prog.godebug = none := by kernel_rfl
set_option maxRecDepth 100000 in
theorem lifted (os : Os) (started : os.Started) (H : Type) (enc : TypeId × Value → H) :
    ReturnsInHanded {} Tryz.checked os 6 .any (Rows.actCountsSpec.pre6 enc Tryz.prog Tryz.f6 Rows.actCountsRow.domain false) (Rows.actCountsSpec.post enc Tryz.prog Tryz.f6 false true false false) := by
  refine returnsInHanded_of_change_sized (C := Tryz.checked) own started (by kernel_rfl) Tryz.func6
    (ChangeSpec.witness6 (enc := enc) (C := Tryz.checked) false ⟨#[], #[.agg #[.int .i64 0, .slice none 0 0, .slice none 0 0, .int .i64 0, .int .i64 0, .int .i64 0, .int .i64 0, .int .i64 0, .int .i64 0, .int .i64 0, .int .i64 0, .slice none 0 0, .int .i64 0, .int .i64 0, .int .i64 0, .slice none 0 0, .int .i64 0], .int .i64 0], []⟩ 8 (by kernel_rfl) (by kernel_rfl) (by kernel_rfl) (by kernel_rfl)) ?_
  intro W base args ds gs before hval0 hW hcnd hsz0 _
  have hval : ∀ (j : Nat) t v, Tryz.f6.params[j]? = some t → args[j]? = some v → Value.okWide Tryz.prog W .any base t v := hval0
  have hW' := hW
  obtain ⟨p, q, hA0, hV, rfl, hfz, hnd⟩ := hW
  have hA : DataW.TrodAll enc Tryz.prog W 0 (fun _ => true) true Tryz.f6.params.toList args.toList ds p := hA0
  rw [Tryz.params6] at hA hval
  obtain ⟨v0, vs0, d0, ds0, p0, q0, hargs, rfl, rfl, h0, r0⟩ := trodAll_cons hA
  obtain ⟨v1, vs1, d1, ds1, p1, q1, rfl, rfl, rfl, h1, r1⟩ := trodAll_cons r0
  obtain ⟨rfl, rfl, rfl⟩ := trodAll_nil r1
  obtain rfl : args = #[v0, v1] := by cases args; simp_all
  obtain ⟨rfl, rfl⟩ := trodVars_none hV
  have l0 : Light 32 d0 := fun n hn => by
    have := List.all_eq_true.1 hsz0 n (DataW.weights_mem_each (j := 0) (t := 32) (d := d0) (by kernel_rfl) rfl n hn)
    simpa using this
  clear hsz0
  have h0k := h0
  obtain ⟨C, N, A0, A1, n0, n1, c0, c1, hp, vt, vo, us, rfl, hHA⟩ := heap_at (hval 0 32 v0 rfl rfl) h0
  obtain ⟨a1, rfl, rfl, rfl, w1⟩ := open_int Tryz.underlying3 (hval 1 3 v1 rfl rfl) h1
  clear hA0 hval0
  simp only [List.append_nil, List.nil_append] at hW'
  refine (walk a1 W hHA l0).mono fun e W' ⟨he, hg⟩ => ?_
  subst he
  exact ⟨_, rfl, post_below (pa := p0) (pv := []) hW' (fun _ _ _ => (trodAll_cons_mk (shut_bool Tryz.underlying4 _) trodAll_mk0))
    (fun sp hsp => by
      have t := (trodAll_cons_mk (trod_keeps (sp := sp) (by kernel_rfl) (of_decide_eq_true (by kernel_rfl)) h0k hg (fun x hx => hW'.lt x (by simp [hx])) (fun x hx => hsp x (by simp [hx]))) (trodAll_cons_mk (shut_int Tryz.underlying3 w1) trodAll_mk0))
      simp only [List.append_nil, List.nil_append] at t
      exact t) (fun _ _ => rfl) (by simp)
    hg (ok_one (by kernel_rfl) rfl (okWide_bool_mk Tryz.underlying4 _))⟩

set_option maxRecDepth 100000 in
theorem over : Rows.actCountsRow.holds Tryz.pinned (OpenSpec.ofChange Rows.actCountsSpec) :=
  OpenClaim.holds_of_wide 6 Tryz.f6 rfl rfl rfl rfl rfl rfl rfl ⟨rfl, rfl, rfl, rfl, rfl⟩ rfl rfl rfl rfl rfl (by kernel_rfl) Tryz.func6 (by kernel_rfl)
    (of_decide_eq_true (by kernel_rfl)) (by unfold Func.isWrapper; first | (rw [if_pos (by decide +kernel)]; kernel_rfl) | (rw [if_neg (by decide +kernel)]; exact ⟨rfl, rfl⟩))
    (fun os started H enc _ => lifted os started H enc)

theorem proved : Rows.ActCountsSaid :=
  over
#print axioms proved
end Go.Proofs.YtddoljfkbkbfjaaGreat.T.LActCounts
