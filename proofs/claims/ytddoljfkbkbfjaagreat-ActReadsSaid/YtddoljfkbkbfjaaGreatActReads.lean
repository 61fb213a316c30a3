/- what doesn't write, make or want leaves memory as it is: proved for every heap and every thread. -/
import Derived.Test.YtddoljfkbkbfjaaGreatWd
import Derived.Deep.CutRange
namespace Go.Proofs.YtddoljfkbkbfjaaGreat.T.LActReads
open G
open Go.Joins Go.ChangeShapes Go.WideShapes Go.ChangeAt Go.RowKit Go.Deep Go.Shelf Go.Maps
set_option linter.unusedVariables false
set_option linter.unusedSimpArgs false

set_option maxRecDepth 100000 in
set_option maxHeartbeats 16000000 in
theorem walk_no (C : Array Value) (th : Int) (w : World) (hs : C.size = 17) (HFEW : Hid (∀ W, Up w W → Calls Tryz.prog 10 #[.agg C] W fun e w' => e = .returned (.bool false) ∧ Up W w')) :
    Calls Tryz.prog 7 #[.agg C, .int .i64 th] w fun e w' => e = .returned (.bool true) ∧ Up w w' := by
  go_enter Tryz.func7, Tryz.ntmps7
  go_wp2_with (fail)
  refine calls_at (fun V1 hV => ?_)
  have kv : Up w V1 := by rw [hV]; (repeat (first | with_reducible exact Up.refl _ | with_reducible refine Up.alloc ?_ _ | with_reducible refine Up.drew ?_ | with_reducible refine Up.drewN ?_ _))
  have nbH : Blk V1 (w.heap.size) 32 C := by rw [hV]; (repeat (first | with_reducible exact Blk.new' _ (by simp) _ _ | with_reducible exact Blk.new _ _ _ | with_reducible refine Blk.alloc ?_ _ | with_reducible refine Blk.drew ?_))
  clear hV
  have HU_1 := Lib.hid (kv)
  clear kv
  have HBH_1 := Lib.hid nbH
  clear nbH
  refine (shown17 V1).mono ?_
  rintro e w2 ⟨rfl, k1⟩
  have HBH_2 := Lib.hid (HBH_1.out.up k1)
  have HU_2 := Lib.hid (HU_1.out.trans k1)
  clear HBH_1 HU_1
  clear k1
  go_wp2_with (with_reducible refine halt_at (o := ⟨_, Op.load 32 _, _, _, _, _⟩) ?_)
  unfold Halt
  refine heap_load (by rfl) _ rfl rfl HBH_2.out hs ?_
  go_wp2_with (fail)
  refine calls_at (fun V3 hV => ?_)
  have kv : Up w2 V3 := by rw [hV]; (repeat (first | with_reducible exact Up.refl _ | with_reducible refine Up.alloc ?_ _ | with_reducible refine Up.drew ?_ | with_reducible refine Up.drewN ?_ _))
  clear hV
  have HBH_3 := Lib.hid (HBH_2.out.up kv)
  have HU_3 := Lib.hid (HU_2.out.trans kv)
  clear HBH_2 HU_2
  clear kv
  refine (HFEW.out V3 HU_3.out).mono ?_
  rintro e w4 ⟨rfl, k3⟩
  have HBH_4 := Lib.hid (HBH_3.out.up k3)
  have HU_4 := Lib.hid (HU_3.out.trans k3)
  clear HBH_3 HU_3
  clear k3
  go_wp2
  go_ret
  exact ⟨rfl, (by (repeat (first | with_reducible exact HU_4.out | with_reducible refine Up.alloc ?_ _ | with_reducible refine Up.drew ?_ | with_reducible refine Up.drewN ?_ _)))⟩
set_option maxRecDepth 100000 in
set_option maxHeartbeats 16000000 in
theorem walk_cant (C : Array Value) (h : Hp) (th : Int) (w : World) (hs : C.size = 17) (HFEW : Hid (∀ W, Up w W → Calls Tryz.prog 10 #[.agg C] W fun e w' => e = .returned (.bool true) ∧ Up W w')) (hR : HpR w (.agg C) h) (hF : HpF h) (hG : HpG h) (hc : canB h th = false) :
    Calls Tryz.prog 7 #[.agg C, .int .i64 th] w fun e w' => e = .returned (.bool true) ∧ Up w w' := by
  have HP0 := Lib.hid (fun W (u : Up w W) => hR.up u)
  clear hR
  go_enter Tryz.func7, Tryz.ntmps7
  go_wp2_with (fail)
  refine calls_at (fun V1 hV => ?_)
  have kv : Up w V1 := by rw [hV]; (repeat (first | with_reducible exact Up.refl _ | with_reducible refine Up.alloc ?_ _ | with_reducible refine Up.drew ?_ | with_reducible refine Up.drewN ?_ _))
  have nbH : Blk V1 (w.heap.size) 32 C := by rw [hV]; (repeat (first | with_reducible exact Blk.new' _ (by simp) _ _ | with_reducible exact Blk.new _ _ _ | with_reducible refine Blk.alloc ?_ _ | with_reducible refine Blk.drew ?_))
  clear hV
  have HU_1 := Lib.hid (kv)
  clear kv
  have HBH_1 := Lib.hid nbH
  clear nbH
  refine (shown17 V1).mono ?_
  rintro e w2 ⟨rfl, k1⟩
  have HBH_2 := Lib.hid (HBH_1.out.up k1)
  have HU_2 := Lib.hid (HU_1.out.trans k1)
  clear HBH_1 HU_1
  clear k1
  go_wp2_with (with_reducible refine halt_at (o := ⟨_, Op.load 32 _, _, _, _, _⟩) ?_)
  unfold Halt
  refine heap_load (by rfl) _ rfl rfl HBH_2.out hs ?_
  go_wp2_with (fail)
  refine calls_at (fun V3 hV => ?_)
  have kv : Up w2 V3 := by rw [hV]; (repeat (first | with_reducible exact Up.refl _ | with_reducible refine Up.alloc ?_ _ | with_reducible refine Up.drew ?_ | with_reducible refine Up.drewN ?_ _))
  clear hV
  have HBH_3 := Lib.hid (HBH_2.out.up kv)
  have HU_3 := Lib.hid (HU_2.out.trans kv)
  clear HBH_2 HU_2
  clear kv
  refine (HFEW.out V3 HU_3.out).mono ?_
  rintro e w4 ⟨rfl, k3⟩
  have HBH_4 := Lib.hid (HBH_3.out.up k3)
  have HU_4 := Lib.hid (HU_3.out.trans k3)
  clear HBH_3 HU_3
  clear k3
  go_wp2_with (with_reducible refine halt_at (o := ⟨_, Op.load 32 _, _, _, _, _⟩) ?_)
  unfold Halt
  refine heap_load (by rfl) _ rfl rfl HBH_4.out hs ?_
  have hq := can_c (HP0.out _ HU_4.out) th
  rw [hc] at hq
  have HQ := Lib.hid hq
  clear hq
  go_wp2_with (fail)
  refine HQ.out.mono ?_
  rintro e wq4 ⟨rfl, kq⟩
  have HBH_5 := Lib.hid (HBH_4.out.up kq)
  have HU_5 := Lib.hid (HU_4.out.trans kq)
  clear HBH_4 HU_4
  clear kq HQ
  go_wp2
  go_ret
  exact ⟨rfl, (by (repeat (first | with_reducible exact HU_5.out | with_reducible refine Up.alloc ?_ _ | with_reducible refine Up.drew ?_ | with_reducible refine Up.drewN ?_ _)))⟩
set_option maxRecDepth 100000 in
set_option maxHeartbeats 16000000 in
theorem walk_log (C : Array Value) (h : Hp) (j : Nat) (t t' : Th) (w : World) (hs : C.size = 17) (HFEW : Hid (∀ W, Up w W → Calls Tryz.prog 10 #[.agg C] W fun e w' => e = .returned (.bool true) ∧ Up W w')) (hR : HpR w (.agg C) h) (hF : HpF h) (hG : HpG h) (hc : canB h (j : Int) = true) (D : Df h (didH h (j : Int)) j t t')
    (hpd : t.pd.length = 1) (HM : Hid ((didH h (j : Int)).m = h.m)) (HFA : Hid ((didH h (j : Int)).fa = h.fa)) :
    Calls Tryz.prog 7 #[.agg C, .int .i64 j] w fun e w' => e = .returned (.bool true) ∧ Up w w' := by

  have HPD := Lib.hid hpd
  have HP0 := Lib.hid (fun W (u : Up w W) => hR.up u)
  have HJ := Lib.hid D.lt
  have HTH := Lib.hid D.ht
  have HTK := Lib.hid D.at_
  have HLEN := Lib.hid D.len
  have HDO := Lib.hid (fun W (u : Up w W) => do_c (hR.up u) hF hG (j : Int))
  have HCB := Lib.hid hc
  have HDF := Lib.hid D
  clear hR hF hG D hc
  generalize didH h (j : Int) = k at *
  go_enter Tryz.func7, Tryz.ntmps7
  go_wp2_with (fail)
  refine calls_at (fun V1 hV => ?_)
  have kv : Up w V1 := by rw [hV]; (repeat (first | with_reducible exact Up.refl _ | with_reducible refine Up.alloc ?_ _ | with_reducible refine Up.drew ?_ | with_reducible refine Up.drewN ?_ _))
  have nbH : Blk V1 (w.heap.size) 32 C := by rw [hV]; (repeat (first | with_reducible exact Blk.new' _ (by simp) _ _ | with_reducible exact Blk.new _ _ _ | with_reducible refine Blk.alloc ?_ _ | with_reducible refine Blk.drew ?_))
  clear hV
  have HU_1 := Lib.hid (kv)
  clear kv
  have HBH_1 := Lib.hid nbH
  clear nbH
  refine (shown17 V1).mono ?_
  rintro e w2 ⟨rfl, k1⟩
  have HBH_2 := Lib.hid (HBH_1.out.up k1)
  have HU_2 := Lib.hid (HU_1.out.trans k1)
  clear HBH_1 HU_1
  clear k1
  go_wp2_with (with_reducible refine halt_at (o := ⟨_, Op.load 32 _, _, _, _, _⟩) ?_)
  unfold Halt
  refine heap_load (by rfl) _ rfl rfl HBH_2.out hs ?_
  go_wp2_with (fail)
  refine calls_at (fun V3 hV => ?_)
  have kv : Up w2 V3 := by rw [hV]; (repeat (first | with_reducible exact Up.refl _ | with_reducible refine Up.alloc ?_ _ | with_reducible refine Up.drew ?_ | with_reducible refine Up.drewN ?_ _))
  clear hV
  have HBH_3 := Lib.hid (HBH_2.out.up kv)
  have HU_3 := Lib.hid (HU_2.out.trans kv)
  clear HBH_2 HU_2
  clear kv
  refine (HFEW.out V3 HU_3.out).mono ?_
  rintro e w4 ⟨rfl, k3⟩
  have HBH_4 := Lib.hid (HBH_3.out.up k3)
  have HU_4 := Lib.hid (HU_3.out.trans k3)
  clear HBH_3 HU_3
  clear k3
  go_wp2_with (with_reducible refine halt_at (o := ⟨_, Op.load 32 _, _, _, _, _⟩) ?_)
  unfold Halt
  refine heap_load (by rfl) _ rfl rfl HBH_4.out hs ?_
  have hq := can_c (HP0.out _ HU_4.out) (j : Int)
  rw [HCB.out] at hq
  have HQ := Lib.hid hq
  clear hq
  go_wp2_with (fail)
  refine HQ.out.mono ?_
  rintro e wq4 ⟨rfl, kq⟩
  have HBH_5 := Lib.hid (HBH_4.out.up kq)
  have HU_5 := Lib.hid (HU_4.out.trans kq)
  clear HBH_4 HU_4
  clear kq HQ
  have HPH_5 := Lib.hid (HP0.out _ HU_5.out)
  obtain ⟨Ph, Qh, ch, dh, Ah, cth, ush, Bh, coh, Xh⟩ := HPH_5.out.x
  obtain ⟨uh, euh, Rh⟩ := Xh.t.at_ (j := j) (t := t) HTH.out
  have roh := Xh.r
  have ooh := Xh.o
  have xeh := Xh.e
  obtain ⟨Sh0, sh0, qh0⟩ := Rh.st.slice
  obtain ⟨Sh1, sh1, qh1⟩ := Rh.lg.slice
  obtain ⟨Sh2, sh2, qh2⟩ := Rh.lf.slice
  obtain ⟨Sh3, sh3, qh3⟩ := Rh.pd.slice
  obtain ⟨Sh4, sh4, qh4⟩ := Rh.dn.slice
  have mh1 := Rh.lg.max
  have mh2 := Rh.lf.max
  have mh3 := Rh.pd.max
  have mh4 := Rh.dn.max
  have mh5 := ooh.max
  have mh6 := roh.max
  unfold maxLen at mh1 mh2 mh3 mh4 mh5 mh6
  rw [show ush.length = h.th.length from Xh.t.1] at mh6
  have gwh := Rh.wt
  have gah := Rh.ba
  have gbh := Rh.be
  have HRTh := Lib.hid Rh
  clear Rh
  obtain ⟨usth, ubah, ubeh, ulgh, ulfh, updh, uwth, udnh⟩ := uh
  simp only at qh0 qh1 qh2 qh3 qh4 gwh gah gbh
  subst qh0 qh1 qh2 qh3 qh4
  obtain ⟨ph, rfl, hph, k0h, k1h⟩ := rc_elem (k := 8) roh (fun _ => rfl) (by decide) euh
  have ah0 : wq4.cell? (ph.add (j * 8)) = some (.slice Sh0 t.st.length sh0) := k0h
  have ah1 := k1h 0 _ rfl
  have ah2 := k1h 1 _ rfl
  have ah3 := k1h 2 _ rfl
  have ah4 := k1h 3 _ rfl
  have ah5 := k1h 4 _ rfl
  have ah6 := k1h 5 _ rfl
  have ah7 := k1h 6 _ rfl
  simp only [Nat.zero_add, Nat.reduceAdd] at ah1 ah2 ah3 ah4 ah5 ah6 ah7
  have bh11 : wq4.cell? ⟨(w.heap.size), 11, none⟩ = some (.slice (some ph) h.th.length cth) := by rw [HBH_5.out.cell, xeh]; rfl
  have bh15 : wq4.cell? ⟨(w.heap.size), 15, none⟩ = some (.slice Bh h.od.length coh) := by rw [HBH_5.out.cell, xeh]; rfl
  have lh := HBH_5.out.lt
  have lph : (ph.add (j * 8)).block < wq4.heap.size := by rw [block_of_add]; exact hph
  clear k0h k1h euh Xh roh xeh
  obtain ⟨nt, ent⟩ : ∃ n, h.th.length = n := ⟨_, rfl⟩
  rw [ent] at bh11
  have hj : j < nt := by rw [← ent]; exact HJ.out
  have n5 : nt ≤ 9223372036854775807 := by rw [ent] at mh6; omega
  rw [HPD.out] at ah5
  have HXlf_5 := Lib.hid HRTh.out.lf
  have mlf := mh2
  clear mh1 mh2 mh3 mh4 mh5 mh6 gwh gah gbh ooh hph
  have hz0 : t.st.length = t.st.length := rfl
  go_wp2_with (with_reducible refine halt_at (o := ⟨_, Op.load 32 _, _, _, _, _⟩) ?_)
  unfold Halt
  clear lph ah0 ah1 ah2 ah3 ah4 ah5 ah6 ah7 bh11 bh15 lh hj n5
  refine list_at (fun V6 hV => ?_)
  have kv : Up wq4 V6 := by rw [hV]; (repeat (first | with_reducible exact Up.refl _ | with_reducible refine Up.alloc ?_ _ | with_reducible refine Up.drew ?_ | with_reducible refine Up.drewN ?_ _))
  have nbT : Blk V6 (wq4.heap.size) 44 #[.slice Sh0 t.st.length sh0, .int .i64 ubah, .int .i64 ubeh, .slice Sh1 t.lg.length sh1, .slice Sh2 t.lf.length sh2, .slice Sh3 1 sh3, .bool uwth, .slice Sh4 t.dn.length sh4] := by rw [hV]; (repeat (first | with_reducible exact Blk.new' _ (by simp) _ _ | with_reducible exact Blk.new _ _ _ | with_reducible refine Blk.alloc ?_ _ | with_reducible refine Blk.drew ?_))
  clear hV
  have HBH_6 := Lib.hid (HBH_5.out.up kv)
  have HPH_6 := Lib.hid (HPH_5.out.up kv)
  have HXlf_6 := Lib.hid (HXlf_5.out.up kv)
  have HU_6 := Lib.hid (HU_5.out.trans kv)
  clear HBH_5 HPH_5 HXlf_5 HU_5
  clear kv
  have HBT_6 := Lib.hid nbT
  clear nbT
  refine heap_load (by rfl) _ rfl rfl HBH_6.out hs ?_
  clear hz0
  have HQ := Lib.hid (HDO.out _ HU_6.out)
  go_wp2_with (fail)
  refine HQ.out.mono ?_
  rintro e wd ⟨K, rfl, hk, kd⟩
  have HBH_7 := Lib.hid (HBH_6.out.up kd)
  have HBT_7 := Lib.hid (HBT_6.out.up kd)
  have HPH_7 := Lib.hid (HPH_6.out.up kd)
  have HXlf_7 := Lib.hid (HXlf_6.out.up kd)
  have HU_7 := Lib.hid (HU_6.out.trans kd)
  clear HBH_6 HBT_6 HPH_6 HXlf_6 HU_6
  have HPK_7 := Lib.hid hk
  have HPH_7 := Lib.hid (HP0.out _ HU_7.out)
  clear kd HQ hk HP0 HDO
  go_wp2_with (with_reducible refine halt_at (o := ⟨_, Op.store 32 _ _, _, _, _, _⟩) ?_)
  unfold Halt
  refine heap_new (C := K) (by rfl) _ _ rfl rfl rfl rfl (by first | rfl | simp) HPK_7.out.size rfl HPK_7.out.one ?_
  simp only [put_none]
  refine list_at (fun V8 hV => ?_)
  have kv : Up wd V8 := by rw [hV]; (repeat (first | with_reducible exact Up.refl _ | with_reducible refine Up.alloc ?_ _ | with_reducible refine Up.drew ?_ | with_reducible refine Up.drewN ?_ _))
  have nbK : Blk V8 (wd.heap.size) 32 K := by rw [hV]; (repeat (first | with_reducible exact Blk.new' _ (by simp) _ _ | with_reducible exact Blk.new _ _ _ | with_reducible refine Blk.alloc ?_ _ | with_reducible refine Blk.drew ?_))
  clear hV
  have HBH_8 := Lib.hid (HBH_7.out.up kv)
  have HBT_8 := Lib.hid (HBT_7.out.up kv)
  have HPK_8 := Lib.hid (HPK_7.out.up kv)
  have HPH_8 := Lib.hid (HPH_7.out.up kv)
  have HXlf_8 := Lib.hid (HXlf_7.out.up kv)
  have HU_8 := Lib.hid (HU_7.out.trans kv)
  clear HBH_7 HBT_7 HPK_7 HPH_7 HXlf_7 HU_7
  clear kv
  have HBK_8 := Lib.hid nbK
  clear nbK
  have tc := HBT_8.out.cell
  have tl := HBT_8.out.lt
  obtain ⟨Pk, Qk, ck, dk, Ak, ctk, usk, Bk, cok, Xk⟩ := HPK_8.out.x
  obtain ⟨Ph, Qh, ch, dh, Ah, cth, ush, Bh, coh, Xh⟩ := HPH_8.out.x
  have xek := Xk.e
  have xeh := Xh.e
  have sk := Xk.s
  have sh := Xh.s
  unfold hpc at xek xeh
  rw [HM.out] at sk xek
  rw [HFA.out, HDF.out.fs, HDF.out.fl, HDF.out.ts, HDF.out.ta, HDF.out.tl, HDF.out.ph] at xek
  have ik0 : V8.cell? ⟨(wd.heap.size), 0, none⟩ = some (.int .i64 h.m.n) := by rw [HBK_8.out.cell, xek]; rfl
  have ik1 : V8.cell? ⟨(wd.heap.size), 1, none⟩ = some (.slice (some Pk) h.m.n ck) := by rw [HBK_8.out.cell, xek]; rfl
  have ik2 : V8.cell? ⟨(wd.heap.size), 2, none⟩ = some (.slice (some Qk) h.m.n dk) := by rw [HBK_8.out.cell, xek]; rfl
  have ik3 : V8.cell? ⟨(wd.heap.size), 3, none⟩ = some (.int .i64 h.fs) := by rw [HBK_8.out.cell, xek]; rfl
  have ik4 : V8.cell? ⟨(wd.heap.size), 4, none⟩ = some (.int .i64 h.fa) := by rw [HBK_8.out.cell, xek]; rfl
  have ik5 : V8.cell? ⟨(wd.heap.size), 5, none⟩ = some (.int .i64 h.fl) := by rw [HBK_8.out.cell, xek]; rfl
  have ik6 : V8.cell? ⟨(wd.heap.size), 6, none⟩ = some (.int .i64 h.ts) := by rw [HBK_8.out.cell, xek]; rfl
  have ik7 : V8.cell? ⟨(wd.heap.size), 7, none⟩ = some (.int .i64 h.ta) := by rw [HBK_8.out.cell, xek]; rfl
  have ik8 : V8.cell? ⟨(wd.heap.size), 8, none⟩ = some (.int .i64 h.tl) := by rw [HBK_8.out.cell, xek]; rfl
  have ik12 : V8.cell? ⟨(wd.heap.size), 12, none⟩ = some (.int .i64 h.ph) := by rw [HBK_8.out.cell, xek]; rfl
  have ih0 : V8.cell? ⟨(w.heap.size), 0, none⟩ = some (.int .i64 h.m.n) := by rw [HBH_8.out.cell, xeh]; rfl
  have ih1 : V8.cell? ⟨(w.heap.size), 1, none⟩ = some (.slice (some Ph) h.m.n ch) := by rw [HBH_8.out.cell, xeh]; rfl
  have ih2 : V8.cell? ⟨(w.heap.size), 2, none⟩ = some (.slice (some Qh) h.m.n dh) := by rw [HBH_8.out.cell, xeh]; rfl
  have ih3 : V8.cell? ⟨(w.heap.size), 3, none⟩ = some (.int .i64 h.fs) := by rw [HBH_8.out.cell, xeh]; rfl
  have ih4 : V8.cell? ⟨(w.heap.size), 4, none⟩ = some (.int .i64 h.fa) := by rw [HBH_8.out.cell, xeh]; rfl
  have ih5 : V8.cell? ⟨(w.heap.size), 5, none⟩ = some (.int .i64 h.fl) := by rw [HBH_8.out.cell, xeh]; rfl
  have ih6 : V8.cell? ⟨(w.heap.size), 6, none⟩ = some (.int .i64 h.ts) := by rw [HBH_8.out.cell, xeh]; rfl
  have ih7 : V8.cell? ⟨(w.heap.size), 7, none⟩ = some (.int .i64 h.ta) := by rw [HBH_8.out.cell, xeh]; rfl
  have ih8 : V8.cell? ⟨(w.heap.size), 8, none⟩ = some (.int .i64 h.tl) := by rw [HBH_8.out.cell, xeh]; rfl
  have ih12 : V8.cell? ⟨(w.heap.size), 12, none⟩ = some (.int .i64 h.ph) := by rw [HBH_8.out.cell, xeh]; rfl
  have lk := HBK_8.out.lt
  have lh := HBH_8.out.lt
  have hE1 := eq_self h.fs h.fa h.fl
  have hE2 := eq_self h.ts h.ta h.tl
  have HSM := Lib.hid (rsame_self h.m Pk Qk Ph Qh ck dk ch dh)
  have HSK := Lib.hid sk
  have HSH := Lib.hid sh
  clear xek xeh sk sh Xk Xh
  go_wp2_with (fail)
  refine (HSM.out _ HSK.out HSH.out).mono ?_
  rintro e wz ⟨rfl, kz⟩
  have zik0 := kz.cell ik0
  have zik1 := kz.cell ik1
  have zik2 := kz.cell ik2
  have zik3 := kz.cell ik3
  have zik4 := kz.cell ik4
  have zik5 := kz.cell ik5
  have zik6 := kz.cell ik6
  have zik7 := kz.cell ik7
  have zik8 := kz.cell ik8
  have zik12 := kz.cell ik12
  have zih0 := kz.cell ih0
  have zih1 := kz.cell ih1
  have zih2 := kz.cell ih2
  have zih3 := kz.cell ih3
  have zih4 := kz.cell ih4
  have zih5 := kz.cell ih5
  have zih6 := kz.cell ih6
  have zih7 := kz.cell ih7
  have zih8 := kz.cell ih8
  have zih12 := kz.cell ih12
  clear tc tl ik0 ik1 ik2 ik3 ik4 ik5 ik6 ik7 ik8 ik12 ih0 ih1 ih2 ih3 ih4 ih5 ih6 ih7 ih8 ih12 lk lh
  have HBH_9 := Lib.hid (HBH_8.out.up kz)
  have HBT_9 := Lib.hid (HBT_8.out.up kz)
  have HBK_9 := Lib.hid (HBK_8.out.up kz)
  have HPK_9 := Lib.hid (HPK_8.out.up kz)
  have HPH_9 := Lib.hid (HPH_8.out.up kz)
  have HXlf_9 := Lib.hid (HXlf_8.out.up kz)
  have HU_9 := Lib.hid (HU_8.out.trans kz)
  clear HBH_8 HBT_8 HBK_8 HPK_8 HPH_8 HXlf_8 HU_8
  have lk := HBK_9.out.lt
  have lh := HBH_9.out.lt
  go_wp2
  go_ret
  exact ⟨rfl, (by (repeat (first | with_reducible exact HU_9.out | with_reducible refine Up.alloc ?_ _ | with_reducible refine Up.drew ?_ | with_reducible refine Up.drewN ?_ _)))⟩
set_option maxRecDepth 100000 in
set_option maxHeartbeats 16000000 in
theorem walk_wr (C : Array Value) (h : Hp) (j : Nat) (t t' : Th) (w : World) (hs : C.size = 17) (HFEW : Hid (∀ W, Up w W → Calls Tryz.prog 10 #[.agg C] W fun e w' => e = .returned (.bool true) ∧ Up W w')) (hR : HpR w (.agg C) h) (hF : HpF h) (hG : HpG h) (hc : canB h (j : Int) = true) (D : Df h (didH h (j : Int)) j t t')
    (o : Op) (hpd : t.pd.length = 0) (hlf : t.lf[0]? = some o) (HIW : Hid (decide (4 ≤ o.kd ∧ o.kd ≤ 7) = true)) :
    Calls Tryz.prog 7 #[.agg C, .int .i64 j] w fun e w' => e = .returned (.bool true) ∧ Up w w' := by
  have HLF := Lib.hid hlf
  have HPD := Lib.hid hpd
  have HP0 := Lib.hid (fun W (u : Up w W) => hR.up u)
  have HJ := Lib.hid D.lt
  have HTH := Lib.hid D.ht
  have HTK := Lib.hid D.at_
  have HLEN := Lib.hid D.len
  have HDO := Lib.hid (fun W (u : Up w W) => do_c (hR.up u) hF hG (j : Int))
  have HCB := Lib.hid hc
  have HDF := Lib.hid D
  clear hR hF hG D hc
  generalize didH h (j : Int) = k at *
  go_enter Tryz.func7, Tryz.ntmps7
  go_wp2_with (fail)
  refine calls_at (fun V1 hV => ?_)
  have kv : Up w V1 := by rw [hV]; (repeat (first | with_reducible exact Up.refl _ | with_reducible refine Up.alloc ?_ _ | with_reducible refine Up.drew ?_ | with_reducible refine Up.drewN ?_ _))
  have nbH : Blk V1 (w.heap.size) 32 C := by rw [hV]; (repeat (first | with_reducible exact Blk.new' _ (by simp) _ _ | with_reducible exact Blk.new _ _ _ | with_reducible refine Blk.alloc ?_ _ | with_reducible refine Blk.drew ?_))
  clear hV
  have HU_1 := Lib.hid (kv)
  clear kv
  have HBH_1 := Lib.hid nbH
  clear nbH
  refine (shown17 V1).mono ?_
  rintro e w2 ⟨rfl, k1⟩
  have HBH_2 := Lib.hid (HBH_1.out.up k1)
  have HU_2 := Lib.hid (HU_1.out.trans k1)
  clear HBH_1 HU_1
  clear k1
  go_wp2_with (with_reducible refine halt_at (o := ⟨_, Op.load 32 _, _, _, _, _⟩) ?_)
  unfold Halt
  refine heap_load (by rfl) _ rfl rfl HBH_2.out hs ?_
  go_wp2_with (fail)
  refine calls_at (fun V3 hV => ?_)
  have kv : Up w2 V3 := by rw [hV]; (repeat (first | with_reducible exact Up.refl _ | with_reducible refine Up.alloc ?_ _ | with_reducible refine Up.drew ?_ | with_reducible refine Up.drewN ?_ _))
  clear hV
  have HBH_3 := Lib.hid (HBH_2.out.up kv)
  have HU_3 := Lib.hid (HU_2.out.trans kv)
  clear HBH_2 HU_2
  clear kv
  refine (HFEW.out V3 HU_3.out).mono ?_
  rintro e w4 ⟨rfl, k3⟩
  have HBH_4 := Lib.hid (HBH_3.out.up k3)
  have HU_4 := Lib.hid (HU_3.out.trans k3)
  clear HBH_3 HU_3
  clear k3
  go_wp2_with (with_reducible refine halt_at (o := ⟨_, Op.load 32 _, _, _, _, _⟩) ?_)
  unfold Halt
  refine heap_load (by rfl) _ rfl rfl HBH_4.out hs ?_
  have hq := can_c (HP0.out _ HU_4.out) (j : Int)
  rw [HCB.out] at hq
  have HQ := Lib.hid hq
  clear hq
  go_wp2_with (fail)
  refine HQ.out.mono ?_
  rintro e wq4 ⟨rfl, kq⟩
  have HBH_5 := Lib.hid (HBH_4.out.up kq)
  have HU_5 := Lib.hid (HU_4.out.trans kq)
  clear HBH_4 HU_4
  clear kq HQ
  have HPH_5 := Lib.hid (HP0.out _ HU_5.out)
  obtain ⟨Ph, Qh, ch, dh, Ah, cth, ush, Bh, coh, Xh⟩ := HPH_5.out.x
  obtain ⟨uh, euh, Rh⟩ := Xh.t.at_ (j := j) (t := t) HTH.out
  have roh := Xh.r
  have ooh := Xh.o
  have xeh := Xh.e
  obtain ⟨Sh0, sh0, qh0⟩ := Rh.st.slice
  obtain ⟨Sh1, sh1, qh1⟩ := Rh.lg.slice
  obtain ⟨Sh2, sh2, qh2⟩ := Rh.lf.slice
  obtain ⟨Sh3, sh3, qh3⟩ := Rh.pd.slice
  obtain ⟨Sh4, sh4, qh4⟩ := Rh.dn.slice
  have mh1 := Rh.lg.max
  have mh2 := Rh.lf.max
  have mh3 := Rh.pd.max
  have mh4 := Rh.dn.max
  have mh5 := ooh.max
  have mh6 := roh.max
  unfold maxLen at mh1 mh2 mh3 mh4 mh5 mh6
  rw [show ush.length = h.th.length from Xh.t.1] at mh6
  have gwh := Rh.wt
  have gah := Rh.ba
  have gbh := Rh.be
  have HRTh := Lib.hid Rh
  clear Rh
  obtain ⟨usth, ubah, ubeh, ulgh, ulfh, updh, uwth, udnh⟩ := uh
  simp only at qh0 qh1 qh2 qh3 qh4 gwh gah gbh
  subst qh0 qh1 qh2 qh3 qh4
  obtain ⟨ph, rfl, hph, k0h, k1h⟩ := rc_elem (k := 8) roh (fun _ => rfl) (by decide) euh
  have ah0 : wq4.cell? (ph.add (j * 8)) = some (.slice Sh0 t.st.length sh0) := k0h
  have ah1 := k1h 0 _ rfl
  have ah2 := k1h 1 _ rfl
  have ah3 := k1h 2 _ rfl
  have ah4 := k1h 3 _ rfl
  have ah5 := k1h 4 _ rfl
  have ah6 := k1h 5 _ rfl
  have ah7 := k1h 6 _ rfl
  simp only [Nat.zero_add, Nat.reduceAdd] at ah1 ah2 ah3 ah4 ah5 ah6 ah7
  have bh11 : wq4.cell? ⟨(w.heap.size), 11, none⟩ = some (.slice (some ph) h.th.length cth) := by rw [HBH_5.out.cell, xeh]; rfl
  have bh15 : wq4.cell? ⟨(w.heap.size), 15, none⟩ = some (.slice Bh h.od.length coh) := by rw [HBH_5.out.cell, xeh]; rfl
  have lh := HBH_5.out.lt
  have lph : (ph.add (j * 8)).block < wq4.heap.size := by rw [block_of_add]; exact hph
  clear k0h k1h euh Xh roh xeh
  obtain ⟨nt, ent⟩ : ∃ n, h.th.length = n := ⟨_, rfl⟩
  rw [ent] at bh11
  have hj : j < nt := by rw [← ent]; exact HJ.out
  have n5 : nt ≤ 9223372036854775807 := by rw [ent] at mh6; omega
  rw [HPD.out] at ah5
  have HXlf_5 := Lib.hid HRTh.out.lf
  have mlf := mh2
  clear mh1 mh2 mh3 mh4 mh5 mh6 gwh gah gbh ooh hph
  have hz0 : t.st.length = t.st.length := rfl
  go_wp2_with (with_reducible refine halt_at (o := ⟨_, Op.load 32 _, _, _, _, _⟩) ?_)
  unfold Halt
  clear lph ah0 ah1 ah2 ah3 ah4 ah5 ah6 ah7 bh11 bh15 lh hj n5
  refine list_at (fun V6 hV => ?_)
  have kv : Up wq4 V6 := by rw [hV]; (repeat (first | with_reducible exact Up.refl _ | with_reducible refine Up.alloc ?_ _ | with_reducible refine Up.drew ?_ | with_reducible refine Up.drewN ?_ _))
  have nbT : Blk V6 (wq4.heap.size) 44 #[.slice Sh0 t.st.length sh0, .int .i64 ubah, .int .i64 ubeh, .slice Sh1 t.lg.length sh1, .slice Sh2 t.lf.length sh2, .slice Sh3 0 sh3, .bool uwth, .slice Sh4 t.dn.length sh4] := by rw [hV]; (repeat (first | with_reducible exact Blk.new' _ (by simp) _ _ | with_reducible exact Blk.new _ _ _ | with_reducible refine Blk.alloc ?_ _ | with_reducible refine Blk.drew ?_))
  clear hV
  have HBH_6 := Lib.hid (HBH_5.out.up kv)
  have HPH_6 := Lib.hid (HPH_5.out.up kv)
  have HXlf_6 := Lib.hid (HXlf_5.out.up kv)
  have HU_6 := Lib.hid (HU_5.out.trans kv)
  clear HBH_5 HPH_5 HXlf_5 HU_5
  clear kv
  have HBT_6 := Lib.hid nbT
  clear nbT
  refine heap_load (by rfl) _ rfl rfl HBH_6.out hs ?_
  clear hz0
  have HQ := Lib.hid (HDO.out _ HU_6.out)
  go_wp2_with (fail)
  refine HQ.out.mono ?_
  rintro e wd ⟨K, rfl, hk, kd⟩
  have HBH_7 := Lib.hid (HBH_6.out.up kd)
  have HBT_7 := Lib.hid (HBT_6.out.up kd)
  have HPH_7 := Lib.hid (HPH_6.out.up kd)
  have HXlf_7 := Lib.hid (HXlf_6.out.up kd)
  have HU_7 := Lib.hid (HU_6.out.trans kd)
  clear HBH_6 HBT_6 HPH_6 HXlf_6 HU_6
  have HPK_7 := Lib.hid hk
  have HPH_7 := Lib.hid (HP0.out _ HU_7.out)
  clear kd HQ hk HP0 HDO
  go_wp2_with (with_reducible refine halt_at (o := ⟨_, Op.store 32 _ _, _, _, _, _⟩) ?_)
  unfold Halt
  refine heap_new (C := K) (by rfl) _ _ rfl rfl rfl rfl (by first | rfl | simp) HPK_7.out.size rfl HPK_7.out.one ?_
  simp only [put_none]
  refine list_at (fun V8 hV => ?_)
  have kv : Up wd V8 := by rw [hV]; (repeat (first | with_reducible exact Up.refl _ | with_reducible refine Up.alloc ?_ _ | with_reducible refine Up.drew ?_ | with_reducible refine Up.drewN ?_ _))
  have nbK : Blk V8 (wd.heap.size) 32 K := by rw [hV]; (repeat (first | with_reducible exact Blk.new' _ (by simp) _ _ | with_reducible exact Blk.new _ _ _ | with_reducible refine Blk.alloc ?_ _ | with_reducible refine Blk.drew ?_))
  clear hV
  have HBH_8 := Lib.hid (HBH_7.out.up kv)
  have HBT_8 := Lib.hid (HBT_7.out.up kv)
  have HPK_8 := Lib.hid (HPK_7.out.up kv)
  have HPH_8 := Lib.hid (HPH_7.out.up kv)
  have HXlf_8 := Lib.hid (HXlf_7.out.up kv)
  have HU_8 := Lib.hid (HU_7.out.trans kv)
  clear HBH_7 HBT_7 HPK_7 HPH_7 HXlf_7 HU_7
  clear kv
  have HBK_8 := Lib.hid nbK
  clear nbK
  have tc := HBT_8.out.cell
  have tl := HBT_8.out.lt
  obtain ⟨q, eq0, hq, k0, k1⟩ := rc_elem (k := 8) HXlf_8.out (fun _ => rfl) (by decide) HLF.out
  subst eq0
  have e0 : V8.cell? (q.add (0 * 8)) = some (.int .i64 o.kd) := k0
  have e1 := k1 0 _ rfl
  have e2 := k1 1 _ rfl
  have e3 := k1 2 _ rfl
  have e4 := k1 3 _ rfl
  have e5 := k1 4 _ rfl
  have e6 := k1 5 _ rfl
  have e7 := k1 6 _ rfl
  rw [Nat.zero_mul, Addr.add_zero'] at e0 e1 e2 e3 e4 e5 e6 e7
  simp only [Nat.zero_add, Nat.reduceAdd] at e1 e2 e3 e4 e5 e6 e7
  have hll : 0 < t.lf.length := by
    rcases Nat.eq_zero_or_pos t.lf.length with z | z
    · have := HLF.out
      rw [List.eq_nil_of_length_eq_zero z] at this
      cases this
    · exact z
  have hlm : t.lf.length ≤ 9223372036854775807 := by omega
  generalize t.lf.length = nl at *
  have HLL := Lib.hid hll
  have HLM := Lib.hid hlm
  have HWR := Lib.hid (writes_any o)
  unfold opv at HWR
  clear k0 k1 mlf
  go_wp2_with (fail)
  refine (HWR.out _).mono ?_
  rintro e wy ⟨he, ky⟩
  rw [HIW.out] at he
  subst he
  have ze0 := ky.cell e0
  clear tc tl e0 e1 e2 e3 e4 e5 e6 e7 hll hlm
  have HBH_9 := Lib.hid (HBH_8.out.up ky)
  have HBT_9 := Lib.hid (HBT_8.out.up ky)
  have HBK_9 := Lib.hid (HBK_8.out.up ky)
  have HPK_9 := Lib.hid (HPK_8.out.up ky)
  have HPH_9 := Lib.hid (HPH_8.out.up ky)
  have HXlf_9 := Lib.hid (HXlf_8.out.up ky)
  have HU_9 := Lib.hid (HU_8.out.trans ky)
  clear HBH_8 HBT_8 HBK_8 HPK_8 HPH_8 HXlf_8 HU_8
  have tc := HBT_9.out.cell
  have tl := HBT_9.out.lt
  have hll : 0 < nl := HLL.out
  have hlm : nl ≤ 9223372036854775807 := HLM.out
  go_wp2
  go_ret
  exact ⟨rfl, (by (repeat (first | with_reducible exact HU_9.out | with_reducible refine Up.alloc ?_ _ | with_reducible refine Up.drew ?_ | with_reducible refine Up.drewN ?_ _)))⟩
set_option maxRecDepth 100000 in
set_option maxHeartbeats 16000000 in
theorem walk_al (C : Array Value) (h : Hp) (j : Nat) (t t' : Th) (w : World) (hs : C.size = 17) (HFEW : Hid (∀ W, Up w W → Calls Tryz.prog 10 #[.agg C] W fun e w' => e = .returned (.bool true) ∧ Up W w')) (hR : HpR w (.agg C) h) (hF : HpF h) (hG : HpG h) (hc : canB h (j : Int) = true) (D : Df h (didH h (j : Int)) j t t')
    (o : Op) (hpd : t.pd.length = 0) (hlf : t.lf[0]? = some o) (HIW : Hid (decide (4 ≤ o.kd ∧ o.kd ≤ 7) = false)) (HK1 : Hid (o.kd = 1)) :
    Calls Tryz.prog 7 #[.agg C, .int .i64 j] w fun e w' => e = .returned (.bool true) ∧ Up w w' := by
  have HLF := Lib.hid hlf
  have HPD := Lib.hid hpd
  have HP0 := Lib.hid (fun W (u : Up w W) => hR.up u)
  have HJ := Lib.hid D.lt
  have HTH := Lib.hid D.ht
  have HTK := Lib.hid D.at_
  have HLEN := Lib.hid D.len
  have HDO := Lib.hid (fun W (u : Up w W) => do_c (hR.up u) hF hG (j : Int))
  have HCB := Lib.hid hc
  have HDF := Lib.hid D
  clear hR hF hG D hc
  generalize didH h (j : Int) = k at *
  go_enter Tryz.func7, Tryz.ntmps7
  go_wp2_with (fail)
  refine calls_at (fun V1 hV => ?_)
  have kv : Up w V1 := by rw [hV]; (repeat (first | with_reducible exact Up.refl _ | with_reducible refine Up.alloc ?_ _ | with_reducible refine Up.drew ?_ | with_reducible refine Up.drewN ?_ _))
  have nbH : Blk V1 (w.heap.size) 32 C := by rw [hV]; (repeat (first | with_reducible exact Blk.new' _ (by simp) _ _ | with_reducible exact Blk.new _ _ _ | with_reducible refine Blk.alloc ?_ _ | with_reducible refine Blk.drew ?_))
  clear hV
  have HU_1 := Lib.hid (kv)
  clear kv
  have HBH_1 := Lib.hid nbH
  clear nbH
  refine (shown17 V1).mono ?_
  rintro e w2 ⟨rfl, k1⟩
  have HBH_2 := Lib.hid (HBH_1.out.up k1)
  have HU_2 := Lib.hid (HU_1.out.trans k1)
  clear HBH_1 HU_1
  clear k1
  go_wp2_with (with_reducible refine halt_at (o := ⟨_, Op.load 32 _, _, _, _, _⟩) ?_)
  unfold Halt
  refine heap_load (by rfl) _ rfl rfl HBH_2.out hs ?_
  go_wp2_with (fail)
  refine calls_at (fun V3 hV => ?_)
  have kv : Up w2 V3 := by rw [hV]; (repeat (first | with_reducible exact Up.refl _ | with_reducible refine Up.alloc ?_ _ | with_reducible refine Up.drew ?_ | with_reducible refine Up.drewN ?_ _))
  clear hV
  have HBH_3 := Lib.hid (HBH_2.out.up kv)
  have HU_3 := Lib.hid (HU_2.out.trans kv)
  clear HBH_2 HU_2
  clear kv
  refine (HFEW.out V3 HU_3.out).mono ?_
  rintro e w4 ⟨rfl, k3⟩
  have HBH_4 := Lib.hid (HBH_3.out.up k3)
  have HU_4 := Lib.hid (HU_3.out.trans k3)
  clear HBH_3 HU_3
  clear k3
  go_wp2_with (with_reducible refine halt_at (o := ⟨_, Op.load 32 _, _, _, _, _⟩) ?_)
  unfold Halt
  refine heap_load (by rfl) _ rfl rfl HBH_4.out hs ?_
  have hq := can_c (HP0.out _ HU_4.out) (j : Int)
  rw [HCB.out] at hq
  have HQ := Lib.hid hq
  clear hq
  go_wp2_with (fail)
  refine HQ.out.mono ?_
  rintro e wq4 ⟨rfl, kq⟩
  have HBH_5 := Lib.hid (HBH_4.out.up kq)
  have HU_5 := Lib.hid (HU_4.out.trans kq)
  clear HBH_4 HU_4
  clear kq HQ
  have HPH_5 := Lib.hid (HP0.out _ HU_5.out)
  obtain ⟨Ph, Qh, ch, dh, Ah, cth, ush, Bh, coh, Xh⟩ := HPH_5.out.x
  obtain ⟨uh, euh, Rh⟩ := Xh.t.at_ (j := j) (t := t) HTH.out
  have roh := Xh.r
  have ooh := Xh.o
  have xeh := Xh.e
  obtain ⟨Sh0, sh0, qh0⟩ := Rh.st.slice
  obtain ⟨Sh1, sh1, qh1⟩ := Rh.lg.slice
  obtain ⟨Sh2, sh2, qh2⟩ := Rh.lf.slice
  obtain ⟨Sh3, sh3, qh3⟩ := Rh.pd.slice
  obtain ⟨Sh4, sh4, qh4⟩ := Rh.dn.slice
  have mh1 := Rh.lg.max
  have mh2 := Rh.lf.max
  have mh3 := Rh.pd.max
  have mh4 := Rh.dn.max
  have mh5 := ooh.max
  have mh6 := roh.max
  unfold maxLen at mh1 mh2 mh3 mh4 mh5 mh6
  rw [show ush.length = h.th.length from Xh.t.1] at mh6
  have gwh := Rh.wt
  have gah := Rh.ba
  have gbh := Rh.be
  have HRTh := Lib.hid Rh
  clear Rh
  obtain ⟨usth, ubah, ubeh, ulgh, ulfh, updh, uwth, udnh⟩ := uh
  simp only at qh0 qh1 qh2 qh3 qh4 gwh gah gbh
  subst qh0 qh1 qh2 qh3 qh4
  obtain ⟨ph, rfl, hph, k0h, k1h⟩ := rc_elem (k := 8) roh (fun _ => rfl) (by decide) euh
  have ah0 : wq4.cell? (ph.add (j * 8)) = some (.slice Sh0 t.st.length sh0) := k0h
  have ah1 := k1h 0 _ rfl
  have ah2 := k1h 1 _ rfl
  have ah3 := k1h 2 _ rfl
  have ah4 := k1h 3 _ rfl
  have ah5 := k1h 4 _ rfl
  have ah6 := k1h 5 _ rfl
  have ah7 := k1h 6 _ rfl
  simp only [Nat.zero_add, Nat.reduceAdd] at ah1 ah2 ah3 ah4 ah5 ah6 ah7
  have bh11 : wq4.cell? ⟨(w.heap.size), 11, none⟩ = some (.slice (some ph) h.th.length cth) := by rw [HBH_5.out.cell, xeh]; rfl
  have bh15 : wq4.cell? ⟨(w.heap.size), 15, none⟩ = some (.slice Bh h.od.length coh) := by rw [HBH_5.out.cell, xeh]; rfl
  have lh := HBH_5.out.lt
  have lph : (ph.add (j * 8)).block < wq4.heap.size := by rw [block_of_add]; exact hph
  clear k0h k1h euh Xh roh xeh
  obtain ⟨nt, ent⟩ : ∃ n, h.th.length = n := ⟨_, rfl⟩
  rw [ent] at bh11
  have hj : j < nt := by rw [← ent]; exact HJ.out
  have n5 : nt ≤ 9223372036854775807 := by rw [ent] at mh6; omega
  rw [HPD.out] at ah5
  have HXlf_5 := Lib.hid HRTh.out.lf
  have mlf := mh2
  clear mh1 mh2 mh3 mh4 mh5 mh6 gwh gah gbh ooh hph
  have hz0 : t.st.length = t.st.length := rfl
  go_wp2_with (with_reducible refine halt_at (o := ⟨_, Op.load 32 _, _, _, _, _⟩) ?_)
  unfold Halt
  clear lph ah0 ah1 ah2 ah3 ah4 ah5 ah6 ah7 bh11 bh15 lh hj n5
  refine list_at (fun V6 hV => ?_)
  have kv : Up wq4 V6 := by rw [hV]; (repeat (first | with_reducible exact Up.refl _ | with_reducible refine Up.alloc ?_ _ | with_reducible refine Up.drew ?_ | with_reducible refine Up.drewN ?_ _))
  have nbT : Blk V6 (wq4.heap.size) 44 #[.slice Sh0 t.st.length sh0, .int .i64 ubah, .int .i64 ubeh, .slice Sh1 t.lg.length sh1, .slice Sh2 t.lf.length sh2, .slice Sh3 0 sh3, .bool uwth, .slice Sh4 t.dn.length sh4] := by rw [hV]; (repeat (first | with_reducible exact Blk.new' _ (by simp) _ _ | with_reducible exact Blk.new _ _ _ | with_reducible refine Blk.alloc ?_ _ | with_reducible refine Blk.drew ?_))
  clear hV
  have HBH_6 := Lib.hid (HBH_5.out.up kv)
  have HPH_6 := Lib.hid (HPH_5.out.up kv)
  have HXlf_6 := Lib.hid (HXlf_5.out.up kv)
  have HU_6 := Lib.hid (HU_5.out.trans kv)
  clear HBH_5 HPH_5 HXlf_5 HU_5
  clear kv
  have HBT_6 := Lib.hid nbT
  clear nbT
  refine heap_load (by rfl) _ rfl rfl HBH_6.out hs ?_
  clear hz0
  have HQ := Lib.hid (HDO.out _ HU_6.out)
  go_wp2_with (fail)
  refine HQ.out.mono ?_
  rintro e wd ⟨K, rfl, hk, kd⟩
  have HBH_7 := Lib.hid (HBH_6.out.up kd)
  have HBT_7 := Lib.hid (HBT_6.out.up kd)
  have HPH_7 := Lib.hid (HPH_6.out.up kd)
  have HXlf_7 := Lib.hid (HXlf_6.out.up kd)
  have HU_7 := Lib.hid (HU_6.out.trans kd)
  clear HBH_6 HBT_6 HPH_6 HXlf_6 HU_6
  have HPK_7 := Lib.hid hk
  have HPH_7 := Lib.hid (HP0.out _ HU_7.out)
  clear kd HQ hk HP0 HDO
  go_wp2_with (with_reducible refine halt_at (o := ⟨_, Op.store 32 _ _, _, _, _, _⟩) ?_)
  unfold Halt
  refine heap_new (C := K) (by rfl) _ _ rfl rfl rfl rfl (by first | rfl | simp) HPK_7.out.size rfl HPK_7.out.one ?_
  simp only [put_none]
  refine list_at (fun V8 hV => ?_)
  have kv : Up wd V8 := by rw [hV]; (repeat (first | with_reducible exact Up.refl _ | with_reducible refine Up.alloc ?_ _ | with_reducible refine Up.drew ?_ | with_reducible refine Up.drewN ?_ _))
  have nbK : Blk V8 (wd.heap.size) 32 K := by rw [hV]; (repeat (first | with_reducible exact Blk.new' _ (by simp) _ _ | with_reducible exact Blk.new _ _ _ | with_reducible refine Blk.alloc ?_ _ | with_reducible refine Blk.drew ?_))
  clear hV
  have HBH_8 := Lib.hid (HBH_7.out.up kv)
  have HBT_8 := Lib.hid (HBT_7.out.up kv)
  have HPK_8 := Lib.hid (HPK_7.out.up kv)
  have HPH_8 := Lib.hid (HPH_7.out.up kv)
  have HXlf_8 := Lib.hid (HXlf_7.out.up kv)
  have HU_8 := Lib.hid (HU_7.out.trans kv)
  clear HBH_7 HBT_7 HPK_7 HPH_7 HXlf_7 HU_7
  clear kv
  have HBK_8 := Lib.hid nbK
  clear nbK
  have tc := HBT_8.out.cell
  have tl := HBT_8.out.lt
  obtain ⟨q, eq0, hq, k0, k1⟩ := rc_elem (k := 8) HXlf_8.out (fun _ => rfl) (by decide) HLF.out
  subst eq0
  have e0 : V8.cell? (q.add (0 * 8)) = some (.int .i64 o.kd) := k0
  have e1 := k1 0 _ rfl
  have e2 := k1 1 _ rfl
  have e3 := k1 2 _ rfl
  have e4 := k1 3 _ rfl
  have e5 := k1 4 _ rfl
  have e6 := k1 5 _ rfl
  have e7 := k1 6 _ rfl
  rw [Nat.zero_mul, Addr.add_zero'] at e0 e1 e2 e3 e4 e5 e6 e7
  simp only [Nat.zero_add, Nat.reduceAdd] at e1 e2 e3 e4 e5 e6 e7
  have hll : 0 < t.lf.length := by
    rcases Nat.eq_zero_or_pos t.lf.length with z | z
    · have := HLF.out
      rw [List.eq_nil_of_length_eq_zero z] at this
      cases this
    · exact z
  have hlm : t.lf.length ≤ 9223372036854775807 := by omega
  generalize t.lf.length = nl at *
  have HLL := Lib.hid hll
  have HLM := Lib.hid hlm
  have HWR := Lib.hid (writes_any o)
  unfold opv at HWR
  clear k0 k1 mlf
  go_wp2_with (fail)
  refine (HWR.out _).mono ?_
  rintro e wy ⟨he, ky⟩
  rw [HIW.out] at he
  subst he
  have ze0 := ky.cell e0
  clear tc tl e0 e1 e2 e3 e4 e5 e6 e7 hll hlm
  have HBH_9 := Lib.hid (HBH_8.out.up ky)
  have HBT_9 := Lib.hid (HBT_8.out.up ky)
  have HBK_9 := Lib.hid (HBK_8.out.up ky)
  have HPK_9 := Lib.hid (HPK_8.out.up ky)
  have HPH_9 := Lib.hid (HPH_8.out.up ky)
  have HXlf_9 := Lib.hid (HXlf_8.out.up ky)
  have HU_9 := Lib.hid (HU_8.out.trans ky)
  clear HBH_8 HBT_8 HBK_8 HPK_8 HPH_8 HXlf_8 HU_8
  have tc := HBT_9.out.cell
  have tl := HBT_9.out.lt
  have hll : 0 < nl := HLL.out
  have hlm : nl ≤ 9223372036854775807 := HLM.out
  have bk1 : (o.kd == 1) = true := beq_iff_eq.2 HK1.out
  go_wp2
  go_ret
  exact ⟨rfl, (by (repeat (first | with_reducible exact HU_9.out | with_reducible refine Up.alloc ?_ _ | with_reducible refine Up.drew ?_ | with_reducible refine Up.drewN ?_ _)))⟩
set_option maxRecDepth 100000 in
set_option maxHeartbeats 16000000 in
theorem walk_rd (C : Array Value) (h : Hp) (j : Nat) (t t' : Th) (w : World) (hs : C.size = 17) (HFEW : Hid (∀ W, Up w W → Calls Tryz.prog 10 #[.agg C] W fun e w' => e = .returned (.bool true) ∧ Up W w')) (hR : HpR w (.agg C) h) (hF : HpF h) (hG : HpG h) (hc : canB h (j : Int) = true) (D : Df h (didH h (j : Int)) j t t')
    (o : Op) (hpd : t.pd.length = 0) (hlf : t.lf[0]? = some o) (HIW : Hid (decide (4 ≤ o.kd ∧ o.kd ≤ 7) = false)) (HK1 : Hid (o.kd ≠ 1)) (HM : Hid ((didH h (j : Int)).m = h.m)) (HFA : Hid ((didH h (j : Int)).fa = h.fa)) :
    Calls Tryz.prog 7 #[.agg C, .int .i64 j] w fun e w' => e = .returned (.bool true) ∧ Up w w' := by
  have HLF := Lib.hid hlf
  have HPD := Lib.hid hpd
  have HP0 := Lib.hid (fun W (u : Up w W) => hR.up u)
  have HJ := Lib.hid D.lt
  have HTH := Lib.hid D.ht
  have HTK := Lib.hid D.at_
  have HLEN := Lib.hid D.len
  have HDO := Lib.hid (fun W (u : Up w W) => do_c (hR.up u) hF hG (j : Int))
  have HCB := Lib.hid hc
  have HDF := Lib.hid D
  clear hR hF hG D hc
  generalize didH h (j : Int) = k at *
  go_enter Tryz.func7, Tryz.ntmps7
  go_wp2_with (fail)
  refine calls_at (fun V1 hV => ?_)
  have kv : Up w V1 := by rw [hV]; (repeat (first | with_reducible exact Up.refl _ | with_reducible refine Up.alloc ?_ _ | with_reducible refine Up.drew ?_ | with_reducible refine Up.drewN ?_ _))
  have nbH : Blk V1 (w.heap.size) 32 C := by rw [hV]; (repeat (first | with_reducible exact Blk.new' _ (by simp) _ _ | with_reducible exact Blk.new _ _ _ | with_reducible refine Blk.alloc ?_ _ | with_reducible refine Blk.drew ?_))
  clear hV
  have HU_1 := Lib.hid (kv)
  clear kv
  have HBH_1 := Lib.hid nbH
  clear nbH
  refine (shown17 V1).mono ?_
  rintro e w2 ⟨rfl, k1⟩
  have HBH_2 := Lib.hid (HBH_1.out.up k1)
  have HU_2 := Lib.hid (HU_1.out.trans k1)
  clear HBH_1 HU_1
  clear k1
  go_wp2_with (with_reducible refine halt_at (o := ⟨_, Op.load 32 _, _, _, _, _⟩) ?_)
  unfold Halt
  refine heap_load (by rfl) _ rfl rfl HBH_2.out hs ?_
  go_wp2_with (fail)
  refine calls_at (fun V3 hV => ?_)
  have kv : Up w2 V3 := by rw [hV]; (repeat (first | with_reducible exact Up.refl _ | with_reducible refine Up.alloc ?_ _ | with_reducible refine Up.drew ?_ | with_reducible refine Up.drewN ?_ _))
  clear hV
  have HBH_3 := Lib.hid (HBH_2.out.up kv)
  have HU_3 := Lib.hid (HU_2.out.trans kv)
  clear HBH_2 HU_2
  clear kv
  refine (HFEW.out V3 HU_3.out).mono ?_
  rintro e w4 ⟨rfl, k3⟩
  have HBH_4 := Lib.hid (HBH_3.out.up k3)
  have HU_4 := Lib.hid (HU_3.out.trans k3)
  clear HBH_3 HU_3
  clear k3
  go_wp2_with (with_reducible refine halt_at (o := ⟨_, Op.load 32 _, _, _, _, _⟩) ?_)
  unfold Halt
  refine heap_load (by rfl) _ rfl rfl HBH_4.out hs ?_
  have hq := can_c (HP0.out _ HU_4.out) (j : Int)
  rw [HCB.out] at hq
  have HQ := Lib.hid hq
  clear hq
  go_wp2_with (fail)
  refine HQ.out.mono ?_
  rintro e wq4 ⟨rfl, kq⟩
  have HBH_5 := Lib.hid (HBH_4.out.up kq)
  have HU_5 := Lib.hid (HU_4.out.trans kq)
  clear HBH_4 HU_4
  clear kq HQ
  have HPH_5 := Lib.hid (HP0.out _ HU_5.out)
  obtain ⟨Ph, Qh, ch, dh, Ah, cth, ush, Bh, coh, Xh⟩ := HPH_5.out.x
  obtain ⟨uh, euh, Rh⟩ := Xh.t.at_ (j := j) (t := t) HTH.out
  have roh := Xh.r
  have ooh := Xh.o
  have xeh := Xh.e
  obtain ⟨Sh0, sh0, qh0⟩ := Rh.st.slice
  obtain ⟨Sh1, sh1, qh1⟩ := Rh.lg.slice
  obtain ⟨Sh2, sh2, qh2⟩ := Rh.lf.slice
  obtain ⟨Sh3, sh3, qh3⟩ := Rh.pd.slice
  obtain ⟨Sh4, sh4, qh4⟩ := Rh.dn.slice
  have mh1 := Rh.lg.max
  have mh2 := Rh.lf.max
  have mh3 := Rh.pd.max
  have mh4 := Rh.dn.max
  have mh5 := ooh.max
  have mh6 := roh.max
  unfold maxLen at mh1 mh2 mh3 mh4 mh5 mh6
  rw [show ush.length = h.th.length from Xh.t.1] at mh6
  have gwh := Rh.wt
  have gah := Rh.ba
  have gbh := Rh.be
  have HRTh := Lib.hid Rh
  clear Rh
  obtain ⟨usth, ubah, ubeh, ulgh, ulfh, updh, uwth, udnh⟩ := uh
  simp only at qh0 qh1 qh2 qh3 qh4 gwh gah gbh
  subst qh0 qh1 qh2 qh3 qh4
  obtain ⟨ph, rfl, hph, k0h, k1h⟩ := rc_elem (k := 8) roh (fun _ => rfl) (by decide) euh
  have ah0 : wq4.cell? (ph.add (j * 8)) = some (.slice Sh0 t.st.length sh0) := k0h
  have ah1 := k1h 0 _ rfl
  have ah2 := k1h 1 _ rfl
  have ah3 := k1h 2 _ rfl
  have ah4 := k1h 3 _ rfl
  have ah5 := k1h 4 _ rfl
  have ah6 := k1h 5 _ rfl
  have ah7 := k1h 6 _ rfl
  simp only [Nat.zero_add, Nat.reduceAdd] at ah1 ah2 ah3 ah4 ah5 ah6 ah7
  have bh11 : wq4.cell? ⟨(w.heap.size), 11, none⟩ = some (.slice (some ph) h.th.length cth) := by rw [HBH_5.out.cell, xeh]; rfl
  have bh15 : wq4.cell? ⟨(w.heap.size), 15, none⟩ = some (.slice Bh h.od.length coh) := by rw [HBH_5.out.cell, xeh]; rfl
  have lh := HBH_5.out.lt
  have lph : (ph.add (j * 8)).block < wq4.heap.size := by rw [block_of_add]; exact hph
  clear k0h k1h euh Xh roh xeh
  obtain ⟨nt, ent⟩ : ∃ n, h.th.length = n := ⟨_, rfl⟩
  rw [ent] at bh11
  have hj : j < nt := by rw [← ent]; exact HJ.out
  have n5 : nt ≤ 9223372036854775807 := by rw [ent] at mh6; omega
  rw [HPD.out] at ah5
  have HXlf_5 := Lib.hid HRTh.out.lf
  have mlf := mh2
  clear mh1 mh2 mh3 mh4 mh5 mh6 gwh gah gbh ooh hph
  have hz0 : t.st.length = t.st.length := rfl
  go_wp2_with (with_reducible refine halt_at (o := ⟨_, Op.load 32 _, _, _, _, _⟩) ?_)
  unfold Halt
  clear lph ah0 ah1 ah2 ah3 ah4 ah5 ah6 ah7 bh11 bh15 lh hj n5
  refine list_at (fun V6 hV => ?_)
  have kv : Up wq4 V6 := by rw [hV]; (repeat (first | with_reducible exact Up.refl _ | with_reducible refine Up.alloc ?_ _ | with_reducible refine Up.drew ?_ | with_reducible refine Up.drewN ?_ _))
  have nbT : Blk V6 (wq4.heap.size) 44 #[.slice Sh0 t.st.length sh0, .int .i64 ubah, .int .i64 ubeh, .slice Sh1 t.lg.length sh1, .slice Sh2 t.lf.length sh2, .slice Sh3 0 sh3, .bool uwth, .slice Sh4 t.dn.length sh4] := by rw [hV]; (repeat (first | with_reducible exact Blk.new' _ (by simp) _ _ | with_reducible exact Blk.new _ _ _ | with_reducible refine Blk.alloc ?_ _ | with_reducible refine Blk.drew ?_))
  clear hV
  have HBH_6 := Lib.hid (HBH_5.out.up kv)
  have HPH_6 := Lib.hid (HPH_5.out.up kv)
  have HXlf_6 := Lib.hid (HXlf_5.out.up kv)
  have HU_6 := Lib.hid (HU_5.out.trans kv)
  clear HBH_5 HPH_5 HXlf_5 HU_5
  clear kv
  have HBT_6 := Lib.hid nbT
  clear nbT
  refine heap_load (by rfl) _ rfl rfl HBH_6.out hs ?_
  clear hz0
  have HQ := Lib.hid (HDO.out _ HU_6.out)
  go_wp2_with (fail)
  refine HQ.out.mono ?_
  rintro e wd ⟨K, rfl, hk, kd⟩
  have HBH_7 := Lib.hid (HBH_6.out.up kd)
  have HBT_7 := Lib.hid (HBT_6.out.up kd)
  have HPH_7 := Lib.hid (HPH_6.out.up kd)
  have HXlf_7 := Lib.hid (HXlf_6.out.up kd)
  have HU_7 := Lib.hid (HU_6.out.trans kd)
  clear HBH_6 HBT_6 HPH_6 HXlf_6 HU_6
  have HPK_7 := Lib.hid hk
  have HPH_7 := Lib.hid (HP0.out _ HU_7.out)
  clear kd HQ hk HP0 HDO
  go_wp2_with (with_reducible refine halt_at (o := ⟨_, Op.store 32 _ _, _, _, _, _⟩) ?_)
  unfold Halt
  refine heap_new (C := K) (by rfl) _ _ rfl rfl rfl rfl (by first | rfl | simp) HPK_7.out.size rfl HPK_7.out.one ?_
  simp only [put_none]
  refine list_at (fun V8 hV => ?_)
  have kv : Up wd V8 := by rw [hV]; (repeat (first | with_reducible exact Up.refl _ | with_reducible refine Up.alloc ?_ _ | with_reducible refine Up.drew ?_ | with_reducible refine Up.drewN ?_ _))
  have nbK : Blk V8 (wd.heap.size) 32 K := by rw [hV]; (repeat (first | with_reducible exact Blk.new' _ (by simp) _ _ | with_reducible exact Blk.new _ _ _ | with_reducible refine Blk.alloc ?_ _ | with_reducible refine Blk.drew ?_))
  clear hV
  have HBH_8 := Lib.hid (HBH_7.out.up kv)
  have HBT_8 := Lib.hid (HBT_7.out.up kv)
  have HPK_8 := Lib.hid (HPK_7.out.up kv)
  have HPH_8 := Lib.hid (HPH_7.out.up kv)
  have HXlf_8 := Lib.hid (HXlf_7.out.up kv)
  have HU_8 := Lib.hid (HU_7.out.trans kv)
  clear HBH_7 HBT_7 HPK_7 HPH_7 HXlf_7 HU_7
  clear kv
  have HBK_8 := Lib.hid nbK
  clear nbK
  have tc := HBT_8.out.cell
  have tl := HBT_8.out.lt
  obtain ⟨q, eq0, hq, k0, k1⟩ := rc_elem (k := 8) HXlf_8.out (fun _ => rfl) (by decide) HLF.out
  subst eq0
  have e0 : V8.cell? (q.add (0 * 8)) = some (.int .i64 o.kd) := k0
  have e1 := k1 0 _ rfl
  have e2 := k1 1 _ rfl
  have e3 := k1 2 _ rfl
  have e4 := k1 3 _ rfl
  have e5 := k1 4 _ rfl
  have e6 := k1 5 _ rfl
  have e7 := k1 6 _ rfl
  rw [Nat.zero_mul, Addr.add_zero'] at e0 e1 e2 e3 e4 e5 e6 e7
  simp only [Nat.zero_add, Nat.reduceAdd] at e1 e2 e3 e4 e5 e6 e7
  have hll : 0 < t.lf.length := by
    rcases Nat.eq_zero_or_pos t.lf.length with z | z
    · have := HLF.out
      rw [List.eq_nil_of_length_eq_zero z] at this
      cases this
    · exact z
  have hlm : t.lf.length ≤ 9223372036854775807 := by omega
  generalize t.lf.length = nl at *
  have HLL := Lib.hid hll
  have HLM := Lib.hid hlm
  have HWR := Lib.hid (writes_any o)
  unfold opv at HWR
  clear k0 k1 mlf
  go_wp2_with (fail)
  refine (HWR.out _).mono ?_
  rintro e wy ⟨he, ky⟩
  rw [HIW.out] at he
  subst he
  have ze0 := ky.cell e0
  clear tc tl e0 e1 e2 e3 e4 e5 e6 e7 hll hlm
  have HBH_9 := Lib.hid (HBH_8.out.up ky)
  have HBT_9 := Lib.hid (HBT_8.out.up ky)
  have HBK_9 := Lib.hid (HBK_8.out.up ky)
  have HPK_9 := Lib.hid (HPK_8.out.up ky)
  have HPH_9 := Lib.hid (HPH_8.out.up ky)
  have HXlf_9 := Lib.hid (HXlf_8.out.up ky)
  have HU_9 := Lib.hid (HU_8.out.trans ky)
  clear HBH_8 HBT_8 HBK_8 HPK_8 HPH_8 HXlf_8 HU_8
  have tc := HBT_9.out.cell
  have tl := HBT_9.out.lt
  have hll : 0 < nl := HLL.out
  have hlm : nl ≤ 9223372036854775807 := HLM.out
  have bk1 : (o.kd == 1) = false := beq_eq_false_iff_ne.mpr HK1.out
  obtain ⟨Pk, Qk, ck, dk, Ak, ctk, usk, Bk, cok, Xk⟩ := HPK_9.out.x
  obtain ⟨Ph, Qh, ch, dh, Ah, cth, ush, Bh, coh, Xh⟩ := HPH_9.out.x
  have xek := Xk.e
  have xeh := Xh.e
  have sk := Xk.s
  have sh := Xh.s
  unfold hpc at xek xeh
  rw [HM.out] at sk xek
  rw [HFA.out, HDF.out.fs, HDF.out.fl, HDF.out.ts, HDF.out.ta, HDF.out.tl, HDF.out.ph] at xek
  have ik0 : wy.cell? ⟨(wd.heap.size), 0, none⟩ = some (.int .i64 h.m.n) := by rw [HBK_9.out.cell, xek]; rfl
  have ik1 : wy.cell? ⟨(wd.heap.size), 1, none⟩ = some (.slice (some Pk) h.m.n ck) := by rw [HBK_9.out.cell, xek]; rfl
  have ik2 : wy.cell? ⟨(wd.heap.size), 2, none⟩ = some (.slice (some Qk) h.m.n dk) := by rw [HBK_9.out.cell, xek]; rfl
  have ik3 : wy.cell? ⟨(wd.heap.size), 3, none⟩ = some (.int .i64 h.fs) := by rw [HBK_9.out.cell, xek]; rfl
  have ik4 : wy.cell? ⟨(wd.heap.size), 4, none⟩ = some (.int .i64 h.fa) := by rw [HBK_9.out.cell, xek]; rfl
  have ik5 : wy.cell? ⟨(wd.heap.size), 5, none⟩ = some (.int .i64 h.fl) := by rw [HBK_9.out.cell, xek]; rfl
  have ik6 : wy.cell? ⟨(wd.heap.size), 6, none⟩ = some (.int .i64 h.ts) := by rw [HBK_9.out.cell, xek]; rfl
  have ik7 : wy.cell? ⟨(wd.heap.size), 7, none⟩ = some (.int .i64 h.ta) := by rw [HBK_9.out.cell, xek]; rfl
  have ik8 : wy.cell? ⟨(wd.heap.size), 8, none⟩ = some (.int .i64 h.tl) := by rw [HBK_9.out.cell, xek]; rfl
  have ik12 : wy.cell? ⟨(wd.heap.size), 12, none⟩ = some (.int .i64 h.ph) := by rw [HBK_9.out.cell, xek]; rfl
  have ih0 : wy.cell? ⟨(w.heap.size), 0, none⟩ = some (.int .i64 h.m.n) := by rw [HBH_9.out.cell, xeh]; rfl
  have ih1 : wy.cell? ⟨(w.heap.size), 1, none⟩ = some (.slice (some Ph) h.m.n ch) := by rw [HBH_9.out.cell, xeh]; rfl
  have ih2 : wy.cell? ⟨(w.heap.size), 2, none⟩ = some (.slice (some Qh) h.m.n dh) := by rw [HBH_9.out.cell, xeh]; rfl
  have ih3 : wy.cell? ⟨(w.heap.size), 3, none⟩ = some (.int .i64 h.fs) := by rw [HBH_9.out.cell, xeh]; rfl
  have ih4 : wy.cell? ⟨(w.heap.size), 4, none⟩ = some (.int .i64 h.fa) := by rw [HBH_9.out.cell, xeh]; rfl
  have ih5 : wy.cell? ⟨(w.heap.size), 5, none⟩ = some (.int .i64 h.fl) := by rw [HBH_9.out.cell, xeh]; rfl
  have ih6 : wy.cell? ⟨(w.heap.size), 6, none⟩ = some (.int .i64 h.ts) := by rw [HBH_9.out.cell, xeh]; rfl
  have ih7 : wy.cell? ⟨(w.heap.size), 7, none⟩ = some (.int .i64 h.ta) := by rw [HBH_9.out.cell, xeh]; rfl
  have ih8 : wy.cell? ⟨(w.heap.size), 8, none⟩ = some (.int .i64 h.tl) := by rw [HBH_9.out.cell, xeh]; rfl
  have ih12 : wy.cell? ⟨(w.heap.size), 12, none⟩ = some (.int .i64 h.ph) := by rw [HBH_9.out.cell, xeh]; rfl
  have lk := HBK_9.out.lt
  have lh := HBH_9.out.lt
  have hE1 := eq_self h.fs h.fa h.fl
  have hE2 := eq_self h.ts h.ta h.tl
  have HSM := Lib.hid (rsame_self h.m Pk Qk Ph Qh ck dk ch dh)
  have HSK := Lib.hid sk
  have HSH := Lib.hid sh
  clear xek xeh sk sh Xk Xh
  go_wp2_with (fail)
  refine (HSM.out _ HSK.out HSH.out).mono ?_
  rintro e wz ⟨rfl, kz⟩
  have zik0 := kz.cell ik0
  have zik1 := kz.cell ik1
  have zik2 := kz.cell ik2
  have zik3 := kz.cell ik3
  have zik4 := kz.cell ik4
  have zik5 := kz.cell ik5
  have zik6 := kz.cell ik6
  have zik7 := kz.cell ik7
  have zik8 := kz.cell ik8
  have zik12 := kz.cell ik12
  have zih0 := kz.cell ih0
  have zih1 := kz.cell ih1
  have zih2 := kz.cell ih2
  have zih3 := kz.cell ih3
  have zih4 := kz.cell ih4
  have zih5 := kz.cell ih5
  have zih6 := kz.cell ih6
  have zih7 := kz.cell ih7
  have zih8 := kz.cell ih8
  have zih12 := kz.cell ih12
  clear tc tl ze0 ik0 ik1 ik2 ik3 ik4 ik5 ik6 ik7 ik8 ik12 ih0 ih1 ih2 ih3 ih4 ih5 ih6 ih7 ih8 ih12 lk lh
  have HBH_10 := Lib.hid (HBH_9.out.up kz)
  have HBT_10 := Lib.hid (HBT_9.out.up kz)
  have HBK_10 := Lib.hid (HBK_9.out.up kz)
  have HPK_10 := Lib.hid (HPK_9.out.up kz)
  have HPH_10 := Lib.hid (HPH_9.out.up kz)
  have HXlf_10 := Lib.hid (HXlf_9.out.up kz)
  have HU_10 := Lib.hid (HU_9.out.trans kz)
  clear HBH_9 HBT_9 HBK_9 HPK_9 HPH_9 HXlf_9 HU_9
  have lk := HBK_10.out.lt
  have lh := HBH_10.out.lt
  go_wp2
  go_ret
  exact ⟨rfl, (by (repeat (first | with_reducible exact HU_10.out | with_reducible refine Up.alloc ?_ _ | with_reducible refine Up.drew ?_ | with_reducible refine Up.drewN ?_ _)))⟩
set_option maxRecDepth 100000 in
set_option maxHeartbeats 16000000 in
theorem walk {C : Array Value} {B : Nat} {L : Prop} {N : Int} {A0 A1 : Option Addr} {n0 n1 c0 c1 : Nat} {h : Hp} {vt vo : Value} {us : List Tv} (th : Int) (w : World) (hA : HeapAt w C B L N A0 A1 n0 n1 c0 c1 h vt vo us) (hL : L) :
    Calls Tryz.prog 7 #[.agg C, .int .i64 th] w fun e w' => e = .returned (.bool true) ∧ Up w w' := by
  have HF := hA.few
  by_cases hf : fewH N n0 n1 h = true
  · rw [hf] at HF
    obtain ⟨r, hN, hNn, hR, hG, hF0⟩ := hA.hp hf
    have hF := hF0 hL
    by_cases hc : canB h th = true
    · obtain ⟨j, t, t', rfl, hbk, hct, D, cs⟩ := did_cases hF hG hc
      have hw : t.pd = [] → t.wt = false := fun hp => by
        unfold canT at hct
        rw [if_neg (by simp [hp])] at hct
        split at hct
        · cases hct
        · rename_i q
          cases hq : t.wt with
          | false => rfl
          | true => exact absurd (.inr (.inl hq)) q
      rcases cs with ⟨e, h1, h2, h3, h4, h5⟩ | ⟨o, t1, h1, h2, h3, h4, h5, h6, h7⟩ | ⟨o, t1, x, h1, h2, hx, h3, hn, h4, h5, h6, h7⟩
      · exact walk_log C h j t t' w hA.size (Lib.hid HF) hR hF hG hc D (by rw [h1]; rfl) (Lib.hid h4) (Lib.hid h5)
      all_goals
        by_cases q : isW o = true
        · exact walk_wr C h j t t' w hA.size (Lib.hid HF) hR hF hG hc D o (by rw [h1]; rfl) h2 (Lib.hid q)
        · have q' : isW o = false := by simpa using q
          by_cases q1 : o.kd = 1
          · exact walk_al C h j t t' w hA.size (Lib.hid HF) hR hF hG hc D o (by rw [h1]; rfl) h2 (Lib.hid q') (Lib.hid q1)
          · exact walk_rd C h j t t' w hA.size (Lib.hid HF) hR hF hG hc D o (by rw [h1]; rfl) h2 (Lib.hid q') (Lib.hid q1) (Lib.hid (h6.trans (h3.same q' q1).1)) (Lib.hid (h7.trans (h3.same q' q1).2))
    · exact walk_cant C h th w hA.size (Lib.hid HF) hR hF hG (by simpa using hc)
  · have hf' : fewH N n0 n1 h = false := by simpa using hf
    rw [hf'] at HF
    exact walk_no C th w hA.size (Lib.hid HF)
theorem own : ownKnob Tryz.prog.godebug = none := by kernel_rfl
set_option maxRecDepth 100000 in
theorem lifted (os : Os) (started : os.Started) (H : Type) (enc : TypeId × Value → H) :
    ReturnsInHanded {} Tryz.checked os 7 .any (Rows.actReadsSpec.pre6 enc Tryz.prog Tryz.f7 Rows.actReadsRow.domain false) (Rows.actReadsSpec.post enc Tryz.prog Tryz.f7 false true false false) := by
  refine returnsInHanded_of_change_sized (C := Tryz.checked) own started (by kernel_rfl) Tryz.func7
    (ChangeSpec.witness6 (enc := enc) (C := Tryz.checked) false ⟨#[], #[.agg #[.int .i64 0, .slice none 0 0, .slice none 0 0, .int .i64 0, .int .i64 0, .int .i64 0, .int .i64 0, .int .i64 0, .int .i64 0, .int .i64 0, .int .i64 0, .slice none 0 0, .int .i64 0, .int .i64 0, .int .i64 0, .slice none 0 0, .int .i64 0], .int .i64 0], []⟩ 8 (by kernel_rfl) (by kernel_rfl) (by kernel_rfl) (by kernel_rfl)) ?_
  intro W base args ds gs before hval0 hW hcnd hsz0 _
  have hval : ∀ (j : Nat) t v, Tryz.f7.params[j]? = some t → args[j]? = some v → Value.okWide Tryz.prog W .any base t v := hval0
  have hW' := hW
  obtain ⟨p, q, hA0, hV, rfl, hfz, hnd⟩ := hW
  have hA : DataW.TrodAll enc Tryz.prog W 0 (fun _ => true) true Tryz.f7.params.toList args.toList ds p := hA0
  rw [Tryz.params7] at hA hval
  obtain ⟨v0, vs0, d0, ds0, p0, q0, hargs, rfl, rfl, h0, r0⟩ := trodAll_cons hA
  obtain ⟨v1, vs1, d1, ds1, p1, q1, rfl, rfl, rfl, h1, r1⟩ := trodAll_cons r0
  obtain ⟨rfl, rfl, rfl⟩ := trodAll_nil r1
  obtain rfl : args = #[v0, v1] := by cases args; simp_all
  obtain ⟨rfl, rfl⟩ := trodVars_none hV
  have l0 : Light 32 d0 := fun n hn => by
    have := List.all_eq_true.1 hsz0 n (DataW.weights_mem_each (j := 0) (t := 32) (d := d0) (by kernel_rfl) rfl n hn)
    simpa using this
  clear hsz0
  have h0k := h0
  obtain ⟨C, N, A0, A1, n0, n1, c0, c1, hp, vt, vo, us, rfl, hHA⟩ := heap_at (hval 0 32 v0 rfl rfl) h0
  obtain ⟨a1, rfl, rfl, rfl, w1⟩ := open_int Tryz.underlying3 (hval 1 3 v1 rfl rfl) h1
  clear hA0 hval0
  simp only [List.append_nil, List.nil_append] at hW'
  refine (walk a1 W hHA l0).mono fun e W' ⟨he, hg⟩ => ?_
  subst he
  exact ⟨_, rfl, post_below (pa := p0) (pv := []) hW' (fun _ _ _ => (trodAll_cons_mk (shut_bool Tryz.underlying4 _) trodAll_mk0))
    (fun sp hsp => by
      have t := (trodAll_cons_mk (trod_keeps (sp := sp) (by kernel_rfl) (of_decide_eq_true (by kernel_rfl)) h0k hg (fun x hx => hW'.lt x (by simp [hx])) (fun x hx => hsp x (by simp [hx]))) (trodAll_cons_mk (shut_int Tryz.underlying3 w1) trodAll_mk0))
      simp only [List.append_nil, List.nil_append] at t
      exact t) (fun _ _ => rfl) (by simp)
    hg (ok_one (by kernel_rfl) rfl (okWide_bool_mk Tryz.underlying4 _))⟩

set_option maxRecDepth 100000 in
theorem over : Rows.actReadsRow.holds Tryz.pinned (OpenSpec.ofChange Rows.actReadsSpec) :=
  OpenClaim.holds_of_wide 7 Tryz.f7 rfl rfl rfl rfl rfl rfl rfl ⟨rfl, rfl, rfl, rfl, rfl⟩ rfl rfl rfl rfl rfl (by kernel_rfl) Tryz.func7 (by kernel_rfl)
    (of_decide_eq_true (by kernel_rfl)) (by unfold Func.isWrapper; first | (rw [if_pos (by decide +kernel)]; kernel_rfl) | (rw [if_neg (by decide +kernel)]; exact ⟨rfl, rfl⟩))
    (fun os started H enc _ => lifted os started H enc)

theorem proved : Rows.ActReadsSaid :=
  over
#print axioms proved
end Go.Proofs.YtddoljfkbkbfjaaGreat.T.LActReads
