/- a right heap stays right; a thread that can't do anything changes nothing; what it does changes no other thread: proved for every heap and every two threads. -/
import Derived.Test.YtddoljfkbkbfjaaGreatWd
import Derived.Deep.CutRange
import Derived.Deep.MidRow
import Derived.BigQuiet
namespace Go.Proofs.YtddoljfkbkbfjaaGreat.T.LActStays
open G
open Go.Joins Go.ChangeShapes Go.WideShapes Go.ChangeAt Go.RowKit Go.Deep Go.Shelf Go.Maps
set_option linter.unusedVariables false
set_option linter.unusedSimpArgs false

theorem hpx_up {w w' : World} {C : Array Value} {h : Hp} {P Q : Addr} {c d : Nat} {A : Option Addr} {ct : Nat} {us : List Tv} {B : Option Addr} {co : Nat} (k : HpX w C h P Q c d A ct us B co) (u : Up w w') : HpX w' C h P Q c d A ct us B co := ⟨k.e, k.s.up u, k.r.up u, k.t.up u, k.o.up u⟩
theorem code_at {P : Program} {c : Code} {a : Act} {w : World} {Q : Exit → Act → World → Prop} (h : ∀ V, V = w → Code.wp P c Q a V) : Code.wp P c Q a w := h w rfl
set_option maxRecDepth 100000 in
set_option maxHeartbeats 16000000 in
theorem walk_no (C : Array Value) (th oth : Int) (w : World) (hs : C.size = 17) (HFEW : Hid (∀ W, Up w W → Calls Tryz.prog 10 #[.agg C] W fun e w' => e = .returned (.bool false) ∧ Up W w')) :
    Calls Tryz.prog 3 #[.agg C, .int .i64 th, .int .i64 oth] w fun e w' => e = .returned (.bool true) ∧ Up w w' := by
  go_enter Tryz.func3, Tryz.ntmps3
  go_wp2_with (fail)
  refine calls_at (fun V1 hV => ?_)
  have kv : Up w V1 := by rw [hV]; (repeat (first | with_reducible exact Up.refl _ | with_reducible refine Up.alloc ?_ _ | with_reducible refine Up.drew ?_ | with_reducible refine Up.drewN ?_ _))
  have nbH : Blk V1 (w.heap.size) 32 C := by rw [hV]; (repeat (first | with_reducible exact Blk.new' _ (by simp) _ _ | with_reducible exact Blk.new _ _ _ | with_reducible refine Blk.alloc ?_ _ | with_reducible refine Blk.drew ?_))
  clear hV
  have HU_1 := Lib.hid (kv)
  clear kv
  have HBH_1 := Lib.hid nbH
  clear nbH
  refine (shown17 V1).mono ?_
  rintro e w2 ⟨rfl, k1⟩
  have HBH_2 := Lib.hid (HBH_1.out.up k1)
  have HU_2 := Lib.hid (HU_1.out.trans k1)
  clear HBH_1 HU_1
  clear k1
  go_wp2_with (with_reducible refine halt_at (o := ⟨_, Op.load 32 _, _, _, _, _⟩) ?_)
  unfold Halt
  refine heap_load (by rfl) _ rfl rfl HBH_2.out hs ?_
  go_wp2_with (fail)
  refine calls_at (fun V3 hV => ?_)
  have kv : Up w2 V3 := by rw [hV]; (repeat (first | with_reducible exact Up.refl _ | with_reducible refine Up.alloc ?_ _ | with_reducible refine Up.drew ?_ | with_reducible refine Up.drewN ?_ _))
  clear hV
  have HBH_3 := Lib.hid (HBH_2.out.up kv)
  have HU_3 := Lib.hid (HU_2.out.trans kv)
  clear HBH_2 HU_2
  clear kv
  refine (HFEW.out V3 HU_3.out).mono ?_
  rintro e w4 ⟨rfl, k3⟩
  have HBH_4 := Lib.hid (HBH_3.out.up k3)
  have HU_4 := Lib.hid (HU_3.out.trans k3)
  clear HBH_3 HU_3
  clear k3
  go_wp2
  go_ret
  exact ⟨rfl, (by (repeat (first | with_reducible exact HU_4.out | with_reducible refine Up.alloc ?_ _ | with_reducible refine Up.drew ?_ | with_reducible refine Up.drewN ?_ _)))⟩
set_option maxRecDepth 100000 in
set_option maxHeartbeats 16000000 in
theorem walk_cant (C : Array Value) (h : Hp) (th : Int) (oth : Int) (w : World) (hs : C.size = 17) (HFEW : Hid (∀ W, Up w W → Calls Tryz.prog 10 #[.agg C] W fun e w' => e = .returned (.bool true) ∧ Up W w')) (hR : HpR w (.agg C) h) (hF : HpF h) (hG : HpG h) (HRG : Hid (rgH h.m.n h.m.n h.m.n h = true)) (hc : canB h th = false) :
    Calls Tryz.prog 3 #[.agg C, .int .i64 th, .int .i64 oth] w fun e w' => e = .returned (.bool true) ∧ Up w w' := by
  have HP0 := Lib.hid (fun W (u : Up w W) => hR.up u)
  have HDO := Lib.hid (fun W (u : Up w W) => do_c (hR.up u) hF hG th)
  have HCB := Lib.hid hc
  have e0 : didH h th = h := by unfold didH; rw [if_neg (by rw [hc]; simp)]
  rw [e0] at HDO
  clear hR hF hG hc e0
  go_enter Tryz.func3, Tryz.ntmps3
  go_wp2_with (fail)
  refine calls_at (fun V1 hV => ?_)
  have kv : Up w V1 := by rw [hV]; (repeat (first | with_reducible exact Up.refl _ | with_reducible refine Up.alloc ?_ _ | with_reducible refine Up.drew ?_ | with_reducible refine Up.drewN ?_ _))
  have nbH : Blk V1 (w.heap.size) 32 C := by rw [hV]; (repeat (first | with_reducible exact Blk.new' _ (by simp) _ _ | with_reducible exact Blk.new _ _ _ | with_reducible refine Blk.alloc ?_ _ | with_reducible refine Blk.drew ?_))
  clear hV
  have HU_1 := Lib.hid (kv)
  clear kv
  have HBH_1 := Lib.hid nbH
  clear nbH
  refine (shown17 V1).mono ?_
  rintro e w2 ⟨rfl, k1⟩
  have HBH_2 := Lib.hid (HBH_1.out.up k1)
  have HU_2 := Lib.hid (HU_1.out.trans k1)
  clear HBH_1 HU_1
  clear k1
  go_wp2_with (with_reducible refine halt_at (o := ⟨_, Op.load 32 _, _, _, _, _⟩) ?_)
  unfold Halt
  refine heap_load (by rfl) _ rfl rfl HBH_2.out hs ?_
  go_wp2_with (fail)
  refine calls_at (fun V3 hV => ?_)
  have kv : Up w2 V3 := by rw [hV]; (repeat (first | with_reducible exact Up.refl _ | with_reducible refine Up.alloc ?_ _ | with_reducible refine Up.drew ?_ | with_reducible refine Up.drewN ?_ _))
  clear hV
  have HBH_3 := Lib.hid (HBH_2.out.up kv)
  have HU_3 := Lib.hid (HU_2.out.trans kv)
  clear HBH_2 HU_2
  clear kv
  refine (HFEW.out V3 HU_3.out).mono ?_
  rintro e w4 ⟨rfl, k3⟩
  have HBH_4 := Lib.hid (HBH_3.out.up k3)
  have HU_4 := Lib.hid (HU_3.out.trans k3)
  clear HBH_3 HU_3
  clear k3
  go_wp2_with (with_reducible refine halt_at (o := ⟨_, Op.load 32 _, _, _, _, _⟩) ?_)
  unfold Halt
  refine heap_load (by rfl) _ rfl rfl HBH_4.out hs ?_
  have HQ := Lib.hid (HDO.out _ HU_4.out)
  go_wp2_with (fail)
  refine HQ.out.mono ?_
  rintro e wd ⟨K, rfl, hk, kd⟩
  have HBH_5 := Lib.hid (HBH_4.out.up kd)
  have HU_5 := Lib.hid (HU_4.out.trans kd)
  clear HBH_4 HU_4
  have HPK_5 := Lib.hid hk
  have HPH_5 := Lib.hid (HP0.out _ HU_5.out)
  have hk2 := hk
  clear kd HQ hk HP0 HDO
  go_wp2_with (with_reducible refine halt_at (o := ⟨_, Op.store 32 _ _, _, _, _, _⟩) ?_)
  unfold Halt
  refine heap_new (C := K) (by rfl) _ _ rfl rfl rfl rfl (by first | rfl | simp) HPK_5.out.size rfl HPK_5.out.one ?_
  simp only [put_none]
  refine list_at (fun V6 hV => ?_)
  have kv : Up wd V6 := by rw [hV]; (repeat (first | with_reducible exact Up.refl _ | with_reducible refine Up.alloc ?_ _ | with_reducible refine Up.drew ?_ | with_reducible refine Up.drewN ?_ _))
  have nbK : Blk V6 (wd.heap.size) 32 K := by rw [hV]; (repeat (first | with_reducible exact Blk.new' _ (by simp) _ _ | with_reducible exact Blk.new _ _ _ | with_reducible refine Blk.alloc ?_ _ | with_reducible refine Blk.drew ?_))
  clear hV
  have HBH_6 := Lib.hid (HBH_5.out.up kv)
  have HPK_6 := Lib.hid (HPK_5.out.up kv)
  have HPH_6 := Lib.hid (HPH_5.out.up kv)
  have HU_6 := Lib.hid (HU_5.out.trans kv)
  clear HBH_5 HPK_5 HPH_5 HU_5
  clear kv
  have HBK_6 := Lib.hid nbK
  clear nbK
  go_wp2_with (with_reducible refine halt_at (o := ⟨_, Op.load 32 _, _, _, _, _⟩) ?_)
  unfold Halt
  refine heap_load (by rfl) _ rfl rfl HBK_6.out HPK_6.out.size ?_
  have hq := right_c HPK_6.out
  rw [HRG.out] at hq
  have HQ := Lib.hid hq
  clear hq
  go_wp2_with (fail)
  refine HQ.out.mono ?_
  rintro e wr ⟨rfl, kr⟩
  have HBH_7 := Lib.hid (HBH_6.out.up kr)
  have HBK_7 := Lib.hid (HBK_6.out.up kr)
  have HPK_7 := Lib.hid (HPK_6.out.up kr)
  have HPH_7 := Lib.hid (HPH_6.out.up kr)
  have HU_7 := Lib.hid (HU_6.out.trans kr)
  clear HBH_6 HBK_6 HPK_6 HPH_6 HU_6
  clear kr HQ
  obtain ⟨Pp, Qp, ccp, ddp, Ap, ctp, usp, Bp, cop, Xp⟩ := HPH_7.out.x
  have bp : wr.cell? ⟨(w.heap.size), 11, none⟩ = some (.slice Ap h.th.length ctp) := by rw [HBH_7.out.cell, Xp.e]; rfl
  have lp := HBH_7.out.lt
  have mp := Xp.r.max
  rw [show usp.length = h.th.length from Xp.t.1] at mp
  unfold maxLen at mp
  clear Xp
  obtain ⟨Pq, Qq, ccq, ddq, Aq, ctq, usq, Bq, coq, Xq⟩ := HPK_7.out.x
  have bq : wr.cell? ⟨(wd.heap.size), 11, none⟩ = some (.slice Aq h.th.length ctq) := by rw [HBK_7.out.cell, Xq.e]; rfl
  have lq := HBK_7.out.lt
  have mq := Xq.r.max
  rw [show usq.length = h.th.length from Xq.t.1] at mq
  unfold maxLen at mq
  clear Xq
  obtain ⟨nt, ent⟩ : ∃ n, h.th.length = n := ⟨_, rfl⟩
  rw [ent] at bp bq mp mq
  have n5 : nt ≤ 9223372036854775807 := by omega
  clear mp mq
  go_wp2_with (with_reducible refine halt_at (o := ⟨_, Op.load 32 _, _, _, _, _⟩) ?_)
  unfold Halt
  refine heap_load (by rfl) _ rfl rfl HBH_7.out hs ?_
  have hq := can_c HPH_7.out th
  rw [HCB.out] at hq
  have HQ := Lib.hid hq
  clear hq
  go_wp2_with (fail)
  refine HQ.out.mono ?_
  rintro e wc ⟨rfl, kc⟩
  have bp' := kc.cell bp
  have bq' := kc.cell bq
  clear bp bq lp lq
  have HBH_8 := Lib.hid (HBH_7.out.up kc)
  have HBK_8 := Lib.hid (HBK_7.out.up kc)
  have HPK_8 := Lib.hid (HPK_7.out.up kc)
  have HPH_8 := Lib.hid (HPH_7.out.up kc)
  have HU_8 := Lib.hid (HU_7.out.trans kc)
  clear HBH_7 HBK_7 HPK_7 HPH_7 HU_7
  clear kc HQ
  have lp := HBH_8.out.lt
  have lq := HBK_8.out.lt
  go_wp2_with (with_reducible refine halt_at (o := ⟨_, Op.load 32 _, _, _, _, _⟩) ?_)
  unfold Halt
  refine heap_load (by rfl) _ rfl rfl HBK_8.out HPK_8.out.size ?_
  go_wp2_with (with_reducible refine halt_at (o := ⟨_, Op.load 32 _, _, _, _, _⟩) ?_)
  unfold Halt
  refine heap_load (by rfl) _ rfl rfl HBH_8.out hs ?_
  have HQ := Lib.hid (same_c HPK_8.out HPH_8.out)
  go_wp2_with (fail)
  refine HQ.out.mono ?_
  rintro e wz ⟨rfl, kz⟩
  clear bp' bq' lp lq
  have HBH_9 := Lib.hid (HBH_8.out.up kz)
  have HBK_9 := Lib.hid (HBK_8.out.up kz)
  have HPK_9 := Lib.hid (HPK_8.out.up kz)
  have HPH_9 := Lib.hid (HPH_8.out.up kz)
  have HU_9 := Lib.hid (HU_8.out.trans kz)
  clear HBH_8 HBK_8 HPK_8 HPH_8 HU_8
  go_wp2
  go_ret
  exact ⟨rfl, (by (repeat (first | with_reducible exact HU_9.out | with_reducible refine Up.alloc ?_ _ | with_reducible refine Up.drew ?_ | with_reducible refine Up.drewN ?_ _)))⟩
set_option maxRecDepth 100000 in
set_option maxHeartbeats 16000000 in
theorem walk_neg (C : Array Value) (h : Hp) (j : Nat) (oth : Int) (t t' : Th) (w : World) (hs : C.size = 17) (HFEW : Hid (∀ W, Up w W → Calls Tryz.prog 10 #[.agg C] W fun e w' => e = .returned (.bool true) ∧ Up W w')) (hR : HpR w (.agg C) h) (hF : HpF h) (hG : HpG h) (hc : canB h (j : Int) = true) (D : Df h (didH h (j : Int)) j t t') (HRG : Hid (rgH (didH h (j : Int)).m.n (didH h (j : Int)).m.n (didH h (j : Int)).m.n (didH h (j : Int)) = true)) (HONE : Hid (C.all (·.oneCell') = true)) (hoc : oth < 0) :
    Calls Tryz.prog 3 #[.agg C, .int .i64 j, .int .i64 oth] w fun e w' => e = .returned (.bool true) ∧ Up w w' := by
  have HP0 := Lib.hid (fun W (u : Up w W) => hR.up u)
  have HJ := Lib.hid D.lt
  have HTH := Lib.hid D.ht
  have HTK := Lib.hid D.at_
  have HLEN := Lib.hid D.len
  have HDO := Lib.hid (fun W (u : Up w W) => do_c (hR.up u) hF hG (j : Int))
  have HCB := Lib.hid hc
  have HDF := Lib.hid D
  clear hR hF hG D hc
  generalize didH h (j : Int) = k at *
  go_enter Tryz.func3, Tryz.ntmps3
  go_wp2_with (fail)
  refine calls_at (fun V1 hV => ?_)
  have kv : Up w V1 := by rw [hV]; (repeat (first | with_reducible exact Up.refl _ | with_reducible refine Up.alloc ?_ _ | with_reducible refine Up.drew ?_ | with_reducible refine Up.drewN ?_ _))
  have nbH : Blk V1 (w.heap.size) 32 C := by rw [hV]; (repeat (first | with_reducible exact Blk.new' _ (by simp) _ _ | with_reducible exact Blk.new _ _ _ | with_reducible refine Blk.alloc ?_ _ | with_reducible refine Blk.drew ?_))
  clear hV
  have HU_1 := Lib.hid (kv)
  clear kv
  have HBH_1 := Lib.hid nbH
  clear nbH
  refine (shown17 V1).mono ?_
  rintro e w2 ⟨rfl, k1⟩
  have HBH_2 := Lib.hid (HBH_1.out.up k1)
  have HU_2 := Lib.hid (HU_1.out.trans k1)
  clear HBH_1 HU_1
  clear k1
  go_wp2_with (with_reducible refine halt_at (o := ⟨_, Op.load 32 _, _, _, _, _⟩) ?_)
  unfold Halt
  refine heap_load (by rfl) _ rfl rfl HBH_2.out hs ?_
  go_wp2_with (fail)
  refine calls_at (fun V3 hV => ?_)
  have kv : Up w2 V3 := by rw [hV]; (repeat (first | with_reducible exact Up.refl _ | with_reducible refine Up.alloc ?_ _ | with_reducible refine Up.drew ?_ | with_reducible refine Up.drewN ?_ _))
  clear hV
  have HBH_3 := Lib.hid (HBH_2.out.up kv)
  have HU_3 := Lib.hid (HU_2.out.trans kv)
  clear HBH_2 HU_2
  clear kv
  refine (HFEW.out V3 HU_3.out).mono ?_
  rintro e w4 ⟨rfl, k3⟩
  have HBH_4 := Lib.hid (HBH_3.out.up k3)
  have HU_4 := Lib.hid (HU_3.out.trans k3)
  clear HBH_3 HU_3
  clear k3
  go_wp2_with (with_reducible refine halt_at (o := ⟨_, Op.load 32 _, _, _, _, _⟩) ?_)
  unfold Halt
  refine heap_load (by rfl) _ rfl rfl HBH_4.out hs ?_
  have HQ := Lib.hid (HDO.out _ HU_4.out)
  go_wp2_with (fail)
  refine HQ.out.mono ?_
  rintro e wd ⟨K, rfl, hk, kd⟩
  have HBH_5 := Lib.hid (HBH_4.out.up kd)
  have HU_5 := Lib.hid (HU_4.out.trans kd)
  clear HBH_4 HU_4
  have HPK_5 := Lib.hid hk
  have HPH_5 := Lib.hid (HP0.out _ HU_5.out)
  have hk2 := hk
  clear kd HQ hk HP0 HDO
  have HTD_5 := Lib.hid (Up.refl wd)
  go_wp2_with (with_reducible refine halt_at (o := ⟨_, Op.store 32 _ _, _, _, _, _⟩) ?_)
  unfold Halt
  refine heap_new (C := K) (by rfl) _ _ rfl rfl rfl rfl (by first | rfl | simp) HPK_5.out.size rfl HPK_5.out.one ?_
  simp only [put_none]
  refine list_at (fun V6 hV => ?_)
  have kv : Up wd V6 := by rw [hV]; (repeat (first | with_reducible exact Up.refl _ | with_reducible refine Up.alloc ?_ _ | with_reducible refine Up.drew ?_ | with_reducible refine Up.drewN ?_ _))
  have nbK : Blk V6 (wd.heap.size) 32 K := by rw [hV]; (repeat (first | with_reducible exact Blk.new' _ (by simp) _ _ | with_reducible exact Blk.new _ _ _ | with_reducible refine Blk.alloc ?_ _ | with_reducible refine Blk.drew ?_))
  clear hV
  have HBH_6 := Lib.hid (HBH_5.out.up kv)
  have HPK_6 := Lib.hid (HPK_5.out.up kv)
  have HPH_6 := Lib.hid (HPH_5.out.up kv)
  have HTD_6 := Lib.hid (HTD_5.out.trans kv)
  have HU_6 := Lib.hid (HU_5.out.trans kv)
  clear HBH_5 HPK_5 HPH_5 HTD_5 HU_5
  clear kv
  have HBK_6 := Lib.hid nbK
  clear nbK
  go_wp2_with (with_reducible refine halt_at (o := ⟨_, Op.load 32 _, _, _, _, _⟩) ?_)
  unfold Halt
  refine heap_load (by rfl) _ rfl rfl HBK_6.out HPK_6.out.size ?_
  have hq := right_c HPK_6.out
  rw [HRG.out] at hq
  have HQ := Lib.hid hq
  clear hq
  go_wp2_with (fail)
  refine HQ.out.mono ?_
  rintro e wr ⟨rfl, kr⟩
  have HBH_7 := Lib.hid (HBH_6.out.up kr)
  have HBK_7 := Lib.hid (HBK_6.out.up kr)
  have HPK_7 := Lib.hid (HPK_6.out.up kr)
  have HPH_7 := Lib.hid (HPH_6.out.up kr)
  have HTD_7 := Lib.hid (HTD_6.out.trans kr)
  have HU_7 := Lib.hid (HU_6.out.trans kr)
  clear HBH_6 HBK_6 HPK_6 HPH_6 HTD_6 HU_6
  clear kr HQ
  obtain ⟨Pp, Qp, ccp, ddp, Ap, ctp, usp, Bp, cop, Xp⟩ := HPH_7.out.x
  have bp : wr.cell? ⟨(w.heap.size), 11, none⟩ = some (.slice Ap h.th.length ctp) := by rw [HBH_7.out.cell, Xp.e]; rfl
  have lp := HBH_7.out.lt
  have mp := Xp.r.max
  rw [show usp.length = h.th.length from Xp.t.1] at mp
  unfold maxLen at mp
  clear Xp
  obtain ⟨Pq, Qq, ccq, ddq, Aq, ctq, usq, Bq, coq, Xq⟩ := HPK_7.out.x
  have bq : wr.cell? ⟨(wd.heap.size), 11, none⟩ = some (.slice Aq k.th.length ctq) := by rw [HBK_7.out.cell, Xq.e]; rfl
  have lq := HBK_7.out.lt
  have mq := Xq.r.max
  rw [show usq.length = k.th.length from Xq.t.1] at mq
  unfold maxLen at mq
  clear Xq
  rw [HLEN.out] at bq mq
  obtain ⟨nt, ent⟩ : ∃ n, h.th.length = n := ⟨_, rfl⟩
  rw [ent] at bp bq mp mq
  have n5 : nt ≤ 9223372036854775807 := by omega
  clear mp mq
  go_wp2_with (with_reducible refine halt_at (o := ⟨_, Op.load 32 _, _, _, _, _⟩) ?_)
  unfold Halt
  refine heap_load (by rfl) _ rfl rfl HBH_7.out hs ?_
  have hq := can_c HPH_7.out (j : Int)
  rw [HCB.out] at hq
  have HQ := Lib.hid hq
  clear hq
  go_wp2_with (fail)
  refine HQ.out.mono ?_
  rintro e wc ⟨rfl, kc⟩
  have bp' := kc.cell bp
  have bq' := kc.cell bq
  clear bp bq lp lq
  have HBH_8 := Lib.hid (HBH_7.out.up kc)
  have HBK_8 := Lib.hid (HBK_7.out.up kc)
  have HPK_8 := Lib.hid (HPK_7.out.up kc)
  have HPH_8 := Lib.hid (HPH_7.out.up kc)
  have HTD_8 := Lib.hid (HTD_7.out.trans kc)
  have HU_8 := Lib.hid (HU_7.out.trans kc)
  clear HBH_7 HBK_7 HPK_7 HPH_7 HTD_7 HU_7
  clear kc HQ
  have lp := HBH_8.out.lt
  have lq := HBK_8.out.lt
  have q1 : decide (oth < 0) = true := decide_eq_true hoc
  clear hoc
  go_wp2
  go_ret
  exact ⟨rfl, (by (repeat (first | with_reducible exact HU_8.out | with_reducible refine Up.alloc ?_ _ | with_reducible refine Up.drew ?_ | with_reducible refine Up.drewN ?_ _)))⟩
set_option maxRecDepth 100000 in
set_option maxHeartbeats 16000000 in
theorem walk_big (C : Array Value) (h : Hp) (j : Nat) (oth : Int) (t t' : Th) (w : World) (hs : C.size = 17) (HFEW : Hid (∀ W, Up w W → Calls Tryz.prog 10 #[.agg C] W fun e w' => e = .returned (.bool true) ∧ Up W w')) (hR : HpR w (.agg C) h) (hF : HpF h) (hG : HpG h) (hc : canB h (j : Int) = true) (D : Df h (didH h (j : Int)) j t t') (HRG : Hid (rgH (didH h (j : Int)).m.n (didH h (j : Int)).m.n (didH h (j : Int)).m.n (didH h (j : Int)) = true)) (HONE : Hid (C.all (·.oneCell') = true)) (hoc : 0 ≤ oth ∧ (h.th.length : Int) ≤ oth) :
    Calls Tryz.prog 3 #[.agg C, .int .i64 j, .int .i64 oth] w fun e w' => e = .returned (.bool true) ∧ Up w w' := by
  have HP0 := Lib.hid (fun W (u : Up w W) => hR.up u)
  have HJ := Lib.hid D.lt
  have HTH := Lib.hid D.ht
  have HTK := Lib.hid D.at_
  have HLEN := Lib.hid D.len
  have HDO := Lib.hid (fun W (u : Up w W) => do_c (hR.up u) hF hG (j : Int))
  have HCB := Lib.hid hc
  have HDF := Lib.hid D
  clear hR hF hG D hc
  generalize didH h (j : Int) = k at *
  go_enter Tryz.func3, Tryz.ntmps3
  go_wp2_with (fail)
  refine calls_at (fun V1 hV => ?_)
  have kv : Up w V1 := by rw [hV]; (repeat (first | with_reducible exact Up.refl _ | with_reducible refine Up.alloc ?_ _ | with_reducible refine Up.drew ?_ | with_reducible refine Up.drewN ?_ _))
  have nbH : Blk V1 (w.heap.size) 32 C := by rw [hV]; (repeat (first | with_reducible exact Blk.new' _ (by simp) _ _ | with_reducible exact Blk.new _ _ _ | with_reducible refine Blk.alloc ?_ _ | with_reducible refine Blk.drew ?_))
  clear hV
  have HU_1 := Lib.hid (kv)
  clear kv
  have HBH_1 := Lib.hid nbH
  clear nbH
  refine (shown17 V1).mono ?_
  rintro e w2 ⟨rfl, k1⟩
  have HBH_2 := Lib.hid (HBH_1.out.up k1)
  have HU_2 := Lib.hid (HU_1.out.trans k1)
  clear HBH_1 HU_1
  clear k1
  go_wp2_with (with_reducible refine halt_at (o := ⟨_, Op.load 32 _, _, _, _, _⟩) ?_)
  unfold Halt
  refine heap_load (by rfl) _ rfl rfl HBH_2.out hs ?_
  go_wp2_with (fail)
  refine calls_at (fun V3 hV => ?_)
  have kv : Up w2 V3 := by rw [hV]; (repeat (first | with_reducible exact Up.refl _ | with_reducible refine Up.alloc ?_ _ | with_reducible refine Up.drew ?_ | with_reducible refine Up.drewN ?_ _))
  clear hV
  have HBH_3 := Lib.hid (HBH_2.out.up kv)
  have HU_3 := Lib.hid (HU_2.out.trans kv)
  clear HBH_2 HU_2
  clear kv
  refine (HFEW.out V3 HU_3.out).mono ?_
  rintro e w4 ⟨rfl, k3⟩
  have HBH_4 := Lib.hid (HBH_3.out.up k3)
  have HU_4 := Lib.hid (HU_3.out.trans k3)
  clear HBH_3 HU_3
  clear k3
  go_wp2_with (with_reducible refine halt_at (o := ⟨_, Op.load 32 _, _, _, _, _⟩) ?_)
  unfold Halt
  refine heap_load (by rfl) _ rfl rfl HBH_4.out hs ?_
  have HQ := Lib.hid (HDO.out _ HU_4.out)
  go_wp2_with (fail)
  refine HQ.out.mono ?_
  rintro e wd ⟨K, rfl, hk, kd⟩
  have HBH_5 := Lib.hid (HBH_4.out.up kd)
  have HU_5 := Lib.hid (HU_4.out.trans kd)
  clear HBH_4 HU_4
  have HPK_5 := Lib.hid hk
  have HPH_5 := Lib.hid (HP0.out _ HU_5.out)
  have hk2 := hk
  clear kd HQ hk HP0 HDO
  have HTD_5 := Lib.hid (Up.refl wd)
  go_wp2_with (with_reducible refine halt_at (o := ⟨_, Op.store 32 _ _, _, _, _, _⟩) ?_)
  unfold Halt
  refine heap_new (C := K) (by rfl) _ _ rfl rfl rfl rfl (by first | rfl | simp) HPK_5.out.size rfl HPK_5.out.one ?_
  simp only [put_none]
  refine list_at (fun V6 hV => ?_)
  have kv : Up wd V6 := by rw [hV]; (repeat (first | with_reducible exact Up.refl _ | with_reducible refine Up.alloc ?_ _ | with_reducible refine Up.drew ?_ | with_reducible refine Up.drewN ?_ _))
  have nbK : Blk V6 (wd.heap.size) 32 K := by rw [hV]; (repeat (first | with_reducible exact Blk.new' _ (by simp) _ _ | with_reducible exact Blk.new _ _ _ | with_reducible refine Blk.alloc ?_ _ | with_reducible refine Blk.drew ?_))
  clear hV
  have HBH_6 := Lib.hid (HBH_5.out.up kv)
  have HPK_6 := Lib.hid (HPK_5.out.up kv)
  have HPH_6 := Lib.hid (HPH_5.out.up kv)
  have HTD_6 := Lib.hid (HTD_5.out.trans kv)
  have HU_6 := Lib.hid (HU_5.out.trans kv)
  clear HBH_5 HPK_5 HPH_5 HTD_5 HU_5
  clear kv
  have HBK_6 := Lib.hid nbK
  clear nbK
  go_wp2_with (with_reducible refine halt_at (o := ⟨_, Op.load 32 _, _, _, _, _⟩) ?_)
  unfold Halt
  refine heap_load (by rfl) _ rfl rfl HBK_6.out HPK_6.out.size ?_
  have hq := right_c HPK_6.out
  rw [HRG.out] at hq
  have HQ := Lib.hid hq
  clear hq
  go_wp2_with (fail)
  refine HQ.out.mono ?_
  rintro e wr ⟨rfl, kr⟩
  have HBH_7 := Lib.hid (HBH_6.out.up kr)
  have HBK_7 := Lib.hid (HBK_6.out.up kr)
  have HPK_7 := Lib.hid (HPK_6.out.up kr)
  have HPH_7 := Lib.hid (HPH_6.out.up kr)
  have HTD_7 := Lib.hid (HTD_6.out.trans kr)
  have HU_7 := Lib.hid (HU_6.out.trans kr)
  clear HBH_6 HBK_6 HPK_6 HPH_6 HTD_6 HU_6
  clear kr HQ
  obtain ⟨Pp, Qp, ccp, ddp, Ap, ctp, usp, Bp, cop, Xp⟩ := HPH_7.out.x
  have bp : wr.cell? ⟨(w.heap.size), 11, none⟩ = some (.slice Ap h.th.length ctp) := by rw [HBH_7.out.cell, Xp.e]; rfl
  have lp := HBH_7.out.lt
  have mp := Xp.r.max
  rw [show usp.length = h.th.length from Xp.t.1] at mp
  unfold maxLen at mp
  clear Xp
  obtain ⟨Pq, Qq, ccq, ddq, Aq, ctq, usq, Bq, coq, Xq⟩ := HPK_7.out.x
  have bq : wr.cell? ⟨(wd.heap.size), 11, none⟩ = some (.slice Aq k.th.length ctq) := by rw [HBK_7.out.cell, Xq.e]; rfl
  have lq := HBK_7.out.lt
  have mq := Xq.r.max
  rw [show usq.length = k.th.length from Xq.t.1] at mq
  unfold maxLen at mq
  clear Xq
  rw [HLEN.out] at bq mq
  obtain ⟨nt, ent⟩ : ∃ n, h.th.length = n := ⟨_, rfl⟩
  rw [ent] at bp bq mp mq
  have n5 : nt ≤ 9223372036854775807 := by omega
  clear mp mq
  go_wp2_with (with_reducible refine halt_at (o := ⟨_, Op.load 32 _, _, _, _, _⟩) ?_)
  unfold Halt
  refine heap_load (by rfl) _ rfl rfl HBH_7.out hs ?_
  have hq := can_c HPH_7.out (j : Int)
  rw [HCB.out] at hq
  have HQ := Lib.hid hq
  clear hq
  go_wp2_with (fail)
  refine HQ.out.mono ?_
  rintro e wc ⟨rfl, kc⟩
  have bp' := kc.cell bp
  have bq' := kc.cell bq
  clear bp bq lp lq
  have HBH_8 := Lib.hid (HBH_7.out.up kc)
  have HBK_8 := Lib.hid (HBK_7.out.up kc)
  have HPK_8 := Lib.hid (HPK_7.out.up kc)
  have HPH_8 := Lib.hid (HPH_7.out.up kc)
  have HTD_8 := Lib.hid (HTD_7.out.trans kc)
  have HU_8 := Lib.hid (HU_7.out.trans kc)
  clear HBH_7 HBK_7 HPK_7 HPH_7 HTD_7 HU_7
  clear kc HQ
  have lp := HBH_8.out.lt
  have lq := HBK_8.out.lt
  have q1 : decide (oth < 0) = false := decide_eq_false (by omega)
  have q2 : decide ((nt : Int) ≤ oth) = true := decide_eq_true (by omega)
  clear hoc
  go_wp2
  go_ret
  exact ⟨rfl, (by (repeat (first | with_reducible exact HU_8.out | with_reducible refine Up.alloc ?_ _ | with_reducible refine Up.drew ?_ | with_reducible refine Up.drewN ?_ _)))⟩
set_option maxRecDepth 100000 in
set_option maxHeartbeats 16000000 in
theorem walk_same (C : Array Value) (h : Hp) (j : Nat) (oth : Int) (t t' : Th) (w : World) (hs : C.size = 17) (HFEW : Hid (∀ W, Up w W → Calls Tryz.prog 10 #[.agg C] W fun e w' => e = .returned (.bool true) ∧ Up W w')) (hR : HpR w (.agg C) h) (hF : HpF h) (hG : HpG h) (hc : canB h (j : Int) = true) (D : Df h (didH h (j : Int)) j t t') (HRG : Hid (rgH (didH h (j : Int)).m.n (didH h (j : Int)).m.n (didH h (j : Int)).m.n (didH h (j : Int)) = true)) (HONE : Hid (C.all (·.oneCell') = true)) (hoc : oth = (j : Int)) :
    Calls Tryz.prog 3 #[.agg C, .int .i64 j, .int .i64 oth] w fun e w' => e = .returned (.bool true) ∧ Up w w' := by
  subst hoc
  have HP0 := Lib.hid (fun W (u : Up w W) => hR.up u)
  have HJ := Lib.hid D.lt
  have HTH := Lib.hid D.ht
  have HTK := Lib.hid D.at_
  have HLEN := Lib.hid D.len
  have HDO := Lib.hid (fun W (u : Up w W) => do_c (hR.up u) hF hG (j : Int))
  have HCB := Lib.hid hc
  have HDF := Lib.hid D
  clear hR hF hG D hc
  generalize didH h (j : Int) = k at *
  go_enter Tryz.func3, Tryz.ntmps3
  go_wp2_with (fail)
  refine calls_at (fun V1 hV => ?_)
  have kv : Up w V1 := by rw [hV]; (repeat (first | with_reducible exact Up.refl _ | with_reducible refine Up.alloc ?_ _ | with_reducible refine Up.drew ?_ | with_reducible refine Up.drewN ?_ _))
  have nbH : Blk V1 (w.heap.size) 32 C := by rw [hV]; (repeat (first | with_reducible exact Blk.new' _ (by simp) _ _ | with_reducible exact Blk.new _ _ _ | with_reducible refine Blk.alloc ?_ _ | with_reducible refine Blk.drew ?_))
  clear hV
  have HU_1 := Lib.hid (kv)
  clear kv
  have HBH_1 := Lib.hid nbH
  clear nbH
  refine (shown17 V1).mono ?_
  rintro e w2 ⟨rfl, k1⟩
  have HBH_2 := Lib.hid (HBH_1.out.up k1)
  have HU_2 := Lib.hid (HU_1.out.trans k1)
  clear HBH_1 HU_1
  clear k1
  go_wp2_with (with_reducible refine halt_at (o := ⟨_, Op.load 32 _, _, _, _, _⟩) ?_)
  unfold Halt
  refine heap_load (by rfl) _ rfl rfl HBH_2.out hs ?_
  go_wp2_with (fail)
  refine calls_at (fun V3 hV => ?_)
  have kv : Up w2 V3 := by rw [hV]; (repeat (first | with_reducible exact Up.refl _ | with_reducible refine Up.alloc ?_ _ | with_reducible refine Up.drew ?_ | with_reducible refine Up.drewN ?_ _))
  clear hV
  have HBH_3 := Lib.hid (HBH_2.out.up kv)
  have HU_3 := Lib.hid (HU_2.out.trans kv)
  clear HBH_2 HU_2
  clear kv
  refine (HFEW.out V3 HU_3.out).mono ?_
  rintro e w4 ⟨rfl, k3⟩
  have HBH_4 := Lib.hid (HBH_3.out.up k3)
  have HU_4 := Lib.hid (HU_3.out.trans k3)
  clear HBH_3 HU_3
  clear k3
  go_wp2_with (with_reducible refine halt_at (o := ⟨_, Op.load 32 _, _, _, _, _⟩) ?_)
  unfold Halt
  refine heap_load (by rfl) _ rfl rfl HBH_4.out hs ?_
  have HQ := Lib.hid (HDO.out _ HU_4.out)
  go_wp2_with (fail)
  refine HQ.out.mono ?_
  rintro e wd ⟨K, rfl, hk, kd⟩
  have HBH_5 := Lib.hid (HBH_4.out.up kd)
  have HU_5 := Lib.hid (HU_4.out.trans kd)
  clear HBH_4 HU_4
  have HPK_5 := Lib.hid hk
  have HPH_5 := Lib.hid (HP0.out _ HU_5.out)
  have hk2 := hk
  clear kd HQ hk HP0 HDO
  have HTD_5 := Lib.hid (Up.refl wd)
  go_wp2_with (with_reducible refine halt_at (o := ⟨_, Op.store 32 _ _, _, _, _, _⟩) ?_)
  unfold Halt
  refine heap_new (C := K) (by rfl) _ _ rfl rfl rfl rfl (by first | rfl | simp) HPK_5.out.size rfl HPK_5.out.one ?_
  simp only [put_none]
  refine list_at (fun V6 hV => ?_)
  have kv : Up wd V6 := by rw [hV]; (repeat (first | with_reducible exact Up.refl _ | with_reducible refine Up.alloc ?_ _ | with_reducible refine Up.drew ?_ | with_reducible refine Up.drewN ?_ _))
  have nbK : Blk V6 (wd.heap.size) 32 K := by rw [hV]; (repeat (first | with_reducible exact Blk.new' _ (by simp) _ _ | with_reducible exact Blk.new _ _ _ | with_reducible refine Blk.alloc ?_ _ | with_reducible refine Blk.drew ?_))
  clear hV
  have HBH_6 := Lib.hid (HBH_5.out.up kv)
  have HPK_6 := Lib.hid (HPK_5.out.up kv)
  have HPH_6 := Lib.hid (HPH_5.out.up kv)
  have HTD_6 := Lib.hid (HTD_5.out.trans kv)
  have HU_6 := Lib.hid (HU_5.out.trans kv)
  clear HBH_5 HPK_5 HPH_5 HTD_5 HU_5
  clear kv
  have HBK_6 := Lib.hid nbK
  clear nbK
  go_wp2_with (with_reducible refine halt_at (o := ⟨_, Op.load 32 _, _, _, _, _⟩) ?_)
  unfold Halt
  refine heap_load (by rfl) _ rfl rfl HBK_6.out HPK_6.out.size ?_
  have hq := right_c HPK_6.out
  rw [HRG.out] at hq
  have HQ := Lib.hid hq
  clear hq
  go_wp2_with (fail)
  refine HQ.out.mono ?_
  rintro e wr ⟨rfl, kr⟩
  have HBH_7 := Lib.hid (HBH_6.out.up kr)
  have HBK_7 := Lib.hid (HBK_6.out.up kr)
  have HPK_7 := Lib.hid (HPK_6.out.up kr)
  have HPH_7 := Lib.hid (HPH_6.out.up kr)
  have HTD_7 := Lib.hid (HTD_6.out.trans kr)
  have HU_7 := Lib.hid (HU_6.out.trans kr)
  clear HBH_6 HBK_6 HPK_6 HPH_6 HTD_6 HU_6
  clear kr HQ
  obtain ⟨Pp, Qp, ccp, ddp, Ap, ctp, usp, Bp, cop, Xp⟩ := HPH_7.out.x
  have bp : wr.cell? ⟨(w.heap.size), 11, none⟩ = some (.slice Ap h.th.length ctp) := by rw [HBH_7.out.cell, Xp.e]; rfl
  have lp := HBH_7.out.lt
  have mp := Xp.r.max
  rw [show usp.length = h.th.length from Xp.t.1] at mp
  unfold maxLen at mp
  clear Xp
  obtain ⟨Pq, Qq, ccq, ddq, Aq, ctq, usq, Bq, coq, Xq⟩ := HPK_7.out.x
  have bq : wr.cell? ⟨(wd.heap.size), 11, none⟩ = some (.slice Aq k.th.length ctq) := by rw [HBK_7.out.cell, Xq.e]; rfl
  have lq := HBK_7.out.lt
  have mq := Xq.r.max
  rw [show usq.length = k.th.length from Xq.t.1] at mq
  unfold maxLen at mq
  clear Xq
  rw [HLEN.out] at bq mq
  obtain ⟨nt, ent⟩ : ∃ n, h.th.length = n := ⟨_, rfl⟩
  rw [ent] at bp bq mp mq
  have n5 : nt ≤ 9223372036854775807 := by omega
  clear mp mq
  go_wp2_with (with_reducible refine halt_at (o := ⟨_, Op.load 32 _, _, _, _, _⟩) ?_)
  unfold Halt
  refine heap_load (by rfl) _ rfl rfl HBH_7.out hs ?_
  have hq := can_c HPH_7.out (j : Int)
  rw [HCB.out] at hq
  have HQ := Lib.hid hq
  clear hq
  go_wp2_with (fail)
  refine HQ.out.mono ?_
  rintro e wc ⟨rfl, kc⟩
  have bp' := kc.cell bp
  have bq' := kc.cell bq
  clear bp bq lp lq
  have HBH_8 := Lib.hid (HBH_7.out.up kc)
  have HBK_8 := Lib.hid (HBK_7.out.up kc)
  have HPK_8 := Lib.hid (HPK_7.out.up kc)
  have HPH_8 := Lib.hid (HPH_7.out.up kc)
  have HTD_8 := Lib.hid (HTD_7.out.trans kc)
  have HU_8 := Lib.hid (HU_7.out.trans kc)
  clear HBH_7 HBK_7 HPK_7 HPH_7 HTD_7 HU_7
  clear kc HQ
  have lp := HBH_8.out.lt
  have lq := HBK_8.out.lt
  have hj : j < nt := by rw [← ent]; exact HJ.out
  have q2 : decide ((nt : Int) ≤ (j : Int)) = false := decide_eq_false (by omega)
  go_wp2
  go_ret
  exact ⟨rfl, (by (repeat (first | with_reducible exact HU_8.out | with_reducible refine Up.alloc ?_ _ | with_reducible refine Up.drew ?_ | with_reducible refine Up.drewN ?_ _)))⟩
set_option maxRecDepth 100000 in
set_option maxHeartbeats 16000000 in
theorem walk_i (C : Array Value) (h : Hp) (j : Nat) (oth : Int) (t t' : Th) (w : World) (hs : C.size = 17) (HFEW : Hid (∀ W, Up w W → Calls Tryz.prog 10 #[.agg C] W fun e w' => e = .returned (.bool true) ∧ Up W w')) (hR : HpR w (.agg C) h) (hF : HpF h) (hG : HpG h) (hc : canB h (j : Int) = true) (D : Df h (didH h (j : Int)) j t t') (HRG : Hid (rgH (didH h (j : Int)).m.n (didH h (j : Int)).m.n (didH h (j : Int)).m.n (didH h (j : Int)) = true)) (HONE : Hid (C.all (·.oneCell') = true)) (i : Nat) (s0 : Th) (HIL : Hid (i < h.th.length)) (HIJ : Hid (i ≠ j)) (HTI : Hid (h.th[i]? = some s0)) (hoc : oth = (i : Int)) :
    Calls Tryz.prog 3 #[.agg C, .int .i64 j, .int .i64 oth] w fun e w' => e = .returned (.bool true) ∧ Up w w' := by
  subst hoc
  have HTKI := Lib.hid ((D.oth HIJ.out).trans HTI.out)
  obtain ⟨Ph, Qh, ch, dh, Ah, cth, ush, Bh, coh, Xh⟩ := hR.x
  obtain ⟨uh, euh, Rh⟩ := Xh.t.at_ (j := i) (t := s0) HTI.out
  obtain ⟨Sh0, sh0, qh0⟩ := Rh.st.slice
  obtain ⟨Sh1, sh1, qh1⟩ := Rh.lg.slice
  obtain ⟨Sh2, sh2, qh2⟩ := Rh.lf.slice
  obtain ⟨Sh3, sh3, qh3⟩ := Rh.pd.slice
  obtain ⟨Sh4, sh4, qh4⟩ := Rh.dn.slice
  obtain ⟨usth, ubah, ubeh, ulgh, ulfh, updh, uwth, udnh⟩ := uh
  simp only at qh0 qh1 qh2 qh3 qh4
  subst qh0 qh1 qh2 qh3 qh4
  obtain ⟨ph, rfl, hph, k0h, k1h⟩ := rc_elem (k := 8) Xh.r (fun _ => rfl) (by decide) euh
  have gh0 := Lib.hid (fun V (u : Up w V) => u.cell (show w.cell? (ph.add (i * 8)) = some (.slice Sh0 s0.st.length sh0) from k0h))
  have gh1 := Lib.hid (fun V (u : Up w V) => u.cell (k1h 0 _ rfl))
  have gh2 := Lib.hid (fun V (u : Up w V) => u.cell (k1h 1 _ rfl))
  have gh3 := Lib.hid (fun V (u : Up w V) => u.cell (k1h 2 _ rfl))
  have gh4 := Lib.hid (fun V (u : Up w V) => u.cell (k1h 3 _ rfl))
  have gh5 := Lib.hid (fun V (u : Up w V) => u.cell (k1h 4 _ rfl))
  have gh6 := Lib.hid (fun V (u : Up w V) => u.cell (k1h 5 _ rfl))
  have gh7 := Lib.hid (fun V (u : Up w V) => u.cell (k1h 6 _ rfl))
  have HRh := Lib.hid (fun V (u : Up w V) => Rh.up u)
  have HXh := Lib.hid (fun V (u : Up w V) => hpx_up Xh u)
  have HLh := Lib.hid (fun V (u : Up w V) => (show (ph.add (i * 8)).block < V.heap.size from by rw [block_of_add]; exact Nat.lt_of_lt_of_le hph u.size))
  clear k0h k1h Rh Xh euh hph
  have HP0 := Lib.hid (fun W (u : Up w W) => hR.up u)
  have HJ := Lib.hid D.lt
  have HTH := Lib.hid D.ht
  have HTK := Lib.hid D.at_
  have HLEN := Lib.hid D.len
  have HDO := Lib.hid (fun W (u : Up w W) => do_c (hR.up u) hF hG (j : Int))
  have HCB := Lib.hid hc
  have HDF := Lib.hid D
  clear hR hF hG D hc
  generalize didH h (j : Int) = k at *
  go_enter Tryz.func3, Tryz.ntmps3
  go_wp2_with (fail)
  refine calls_at (fun V1 hV => ?_)
  have kv : Up w V1 := by rw [hV]; (repeat (first | with_reducible exact Up.refl _ | with_reducible refine Up.alloc ?_ _ | with_reducible refine Up.drew ?_ | with_reducible refine Up.drewN ?_ _))
  have nbH : Blk V1 (w.heap.size) 32 C := by rw [hV]; (repeat (first | with_reducible exact Blk.new' _ (by simp) _ _ | with_reducible exact Blk.new _ _ _ | with_reducible refine Blk.alloc ?_ _ | with_reducible refine Blk.drew ?_))
  clear hV
  have HU_1 := Lib.hid (kv)
  clear kv
  have HBH_1 := Lib.hid nbH
  clear nbH
  refine (shown17 V1).mono ?_
  rintro e w2 ⟨rfl, k1⟩
  have HBH_2 := Lib.hid (HBH_1.out.up k1)
  have HU_2 := Lib.hid (HU_1.out.trans k1)
  clear HBH_1 HU_1
  clear k1
  go_wp2_with (with_reducible refine halt_at (o := ⟨_, Op.load 32 _, _, _, _, _⟩) ?_)
  unfold Halt
  refine heap_load (by rfl) _ rfl rfl HBH_2.out hs ?_
  go_wp2_with (fail)
  refine calls_at (fun V3 hV => ?_)
  have kv : Up w2 V3 := by rw [hV]; (repeat (first | with_reducible exact Up.refl _ | with_reducible refine Up.alloc ?_ _ | with_reducible refine Up.drew ?_ | with_reducible refine Up.drewN ?_ _))
  clear hV
  have HBH_3 := Lib.hid (HBH_2.out.up kv)
  have HU_3 := Lib.hid (HU_2.out.trans kv)
  clear HBH_2 HU_2
  clear kv
  refine (HFEW.out V3 HU_3.out).mono ?_
  rintro e w4 ⟨rfl, k3⟩
  have HBH_4 := Lib.hid (HBH_3.out.up k3)
  have HU_4 := Lib.hid (HU_3.out.trans k3)
  clear HBH_3 HU_3
  clear k3
  go_wp2_with (with_reducible refine halt_at (o := ⟨_, Op.load 32 _, _, _, _, _⟩) ?_)
  unfold Halt
  refine heap_load (by rfl) _ rfl rfl HBH_4.out hs ?_
  have HQ := Lib.hid (HDO.out _ HU_4.out)
  go_wp2_with (fail)
  refine HQ.out.mono ?_
  rintro e wd ⟨K, rfl, hk, kd⟩
  have HBH_5 := Lib.hid (HBH_4.out.up kd)
  have HU_5 := Lib.hid (HU_4.out.trans kd)
  clear HBH_4 HU_4
  have HPK_5 := Lib.hid hk
  have HPH_5 := Lib.hid (HP0.out _ HU_5.out)
  have hk2 := hk
  clear kd HQ hk HP0 HDO
  have HTD_5 := Lib.hid (Up.refl wd)
  obtain ⟨Pk, Qk, ck, dk, Ak, ctk, usk, Bk, cok, Xk⟩ := hk2.x
  obtain ⟨uk, euk, Rk⟩ := Xk.t.at_ (j := i) (t := s0) HTKI.out
  obtain ⟨Sk0, sk0, qk0⟩ := Rk.st.slice
  obtain ⟨Sk1, sk1, qk1⟩ := Rk.lg.slice
  obtain ⟨Sk2, sk2, qk2⟩ := Rk.lf.slice
  obtain ⟨Sk3, sk3, qk3⟩ := Rk.pd.slice
  obtain ⟨Sk4, sk4, qk4⟩ := Rk.dn.slice
  obtain ⟨ustk, ubak, ubek, ulgk, ulfk, updk, uwtk, udnk⟩ := uk
  simp only at qk0 qk1 qk2 qk3 qk4
  subst qk0 qk1 qk2 qk3 qk4
  obtain ⟨pk, rfl, hpk, k0k, k1k⟩ := rc_elem (k := 8) Xk.r (fun _ => rfl) (by decide) euk
  have gk0 := Lib.hid (fun V (u : Up wd V) => u.cell (show wd.cell? (pk.add (i * 8)) = some (.slice Sk0 s0.st.length sk0) from k0k))
  have gk1 := Lib.hid (fun V (u : Up wd V) => u.cell (k1k 0 _ rfl))
  have gk2 := Lib.hid (fun V (u : Up wd V) => u.cell (k1k 1 _ rfl))
  have gk3 := Lib.hid (fun V (u : Up wd V) => u.cell (k1k 2 _ rfl))
  have gk4 := Lib.hid (fun V (u : Up wd V) => u.cell (k1k 3 _ rfl))
  have gk5 := Lib.hid (fun V (u : Up wd V) => u.cell (k1k 4 _ rfl))
  have gk6 := Lib.hid (fun V (u : Up wd V) => u.cell (k1k 5 _ rfl))
  have gk7 := Lib.hid (fun V (u : Up wd V) => u.cell (k1k 6 _ rfl))
  have HRk := Lib.hid (fun V (u : Up wd V) => Rk.up u)
  have HXk := Lib.hid (fun V (u : Up wd V) => hpx_up Xk u)
  have HLk := Lib.hid (fun V (u : Up wd V) => (show (pk.add (i * 8)).block < V.heap.size from by rw [block_of_add]; exact Nat.lt_of_lt_of_le hpk u.size))
  clear k0k k1k Rk Xk euk hpk
  go_wp2_with (with_reducible refine halt_at (o := ⟨_, Op.store 32 _ _, _, _, _, _⟩) ?_)
  unfold Halt
  refine heap_new (C := K) (by rfl) _ _ rfl rfl rfl rfl (by first | rfl | simp) HPK_5.out.size rfl HPK_5.out.one ?_
  simp only [put_none]
  refine list_at (fun V6 hV => ?_)
  have kv : Up wd V6 := by rw [hV]; (repeat (first | with_reducible exact Up.refl _ | with_reducible refine Up.alloc ?_ _ | with_reducible refine Up.drew ?_ | with_reducible refine Up.drewN ?_ _))
  have nbK : Blk V6 (wd.heap.size) 32 K := by rw [hV]; (repeat (first | with_reducible exact Blk.new' _ (by simp) _ _ | with_reducible exact Blk.new _ _ _ | with_reducible refine Blk.alloc ?_ _ | with_reducible refine Blk.drew ?_))
  clear hV
  have HBH_6 := Lib.hid (HBH_5.out.up kv)
  have HPK_6 := Lib.hid (HPK_5.out.up kv)
  have HPH_6 := Lib.hid (HPH_5.out.up kv)
  have HTD_6 := Lib.hid (HTD_5.out.trans kv)
  have HU_6 := Lib.hid (HU_5.out.trans kv)
  clear HBH_5 HPK_5 HPH_5 HTD_5 HU_5
  clear kv
  have HBK_6 := Lib.hid nbK
  clear nbK
  go_wp2_with (with_reducible refine halt_at (o := ⟨_, Op.load 32 _, _, _, _, _⟩) ?_)
  unfold Halt
  refine heap_load (by rfl) _ rfl rfl HBK_6.out HPK_6.out.size ?_
  have hq := right_c HPK_6.out
  rw [HRG.out] at hq
  have HQ := Lib.hid hq
  clear hq
  go_wp2_with (fail)
  refine HQ.out.mono ?_
  rintro e wr ⟨rfl, kr⟩
  have HBH_7 := Lib.hid (HBH_6.out.up kr)
  have HBK_7 := Lib.hid (HBK_6.out.up kr)
  have HPK_7 := Lib.hid (HPK_6.out.up kr)
  have HPH_7 := Lib.hid (HPH_6.out.up kr)
  have HTD_7 := Lib.hid (HTD_6.out.trans kr)
  have HU_7 := Lib.hid (HU_6.out.trans kr)
  clear HBH_6 HBK_6 HPK_6 HPH_6 HTD_6 HU_6
  clear kr HQ
  obtain ⟨Pp, Qp, ccp, ddp, Ap, ctp, usp, Bp, cop, Xp⟩ := HPH_7.out.x
  have bp : wr.cell? ⟨(w.heap.size), 11, none⟩ = some (.slice Ap h.th.length ctp) := by rw [HBH_7.out.cell, Xp.e]; rfl
  have lp := HBH_7.out.lt
  have mp := Xp.r.max
  rw [show usp.length = h.th.length from Xp.t.1] at mp
  unfold maxLen at mp
  clear Xp
  obtain ⟨Pq, Qq, ccq, ddq, Aq, ctq, usq, Bq, coq, Xq⟩ := HPK_7.out.x
  have bq : wr.cell? ⟨(wd.heap.size), 11, none⟩ = some (.slice Aq k.th.length ctq) := by rw [HBK_7.out.cell, Xq.e]; rfl
  have lq := HBK_7.out.lt
  have mq := Xq.r.max
  rw [show usq.length = k.th.length from Xq.t.1] at mq
  unfold maxLen at mq
  clear Xq
  rw [HLEN.out] at bq mq
  obtain ⟨nt, ent⟩ : ∃ n, h.th.length = n := ⟨_, rfl⟩
  rw [ent] at bp bq mp mq
  have n5 : nt ≤ 9223372036854775807 := by omega
  clear mp mq
  go_wp2_with (with_reducible refine halt_at (o := ⟨_, Op.load 32 _, _, _, _, _⟩) ?_)
  unfold Halt
  refine heap_load (by rfl) _ rfl rfl HBH_7.out hs ?_
  have hq := can_c HPH_7.out (j : Int)
  rw [HCB.out] at hq
  have HQ := Lib.hid hq
  clear hq
  go_wp2_with (fail)
  refine HQ.out.mono ?_
  rintro e wc ⟨rfl, kc⟩
  have bp' := kc.cell bp
  have bq' := kc.cell bq
  clear bp bq lp lq
  have HBH_8 := Lib.hid (HBH_7.out.up kc)
  have HBK_8 := Lib.hid (HBK_7.out.up kc)
  have HPK_8 := Lib.hid (HPK_7.out.up kc)
  have HPH_8 := Lib.hid (HPH_7.out.up kc)
  have HTD_8 := Lib.hid (HTD_7.out.trans kc)
  have HU_8 := Lib.hid (HU_7.out.trans kc)
  clear HBH_7 HBK_7 HPK_7 HPH_7 HTD_7 HU_7
  clear kc HQ
  have lp := HBH_8.out.lt
  have lq := HBK_8.out.lt
  have hi2 : i < nt := by rw [← ent]; exact HIL.out
  have q1 : decide ((nt : Int) ≤ (i : Int)) = false := decide_eq_false (by omega)
  have q2 : ((i : Int) == (j : Int)) = false := beq_eq_false_iff_ne.mpr (by have := HIJ.out; omega)
  have hi63 : i ≤ 9223372036854775807 := by omega
  go_wp2_with (with_reducible refine halt_at (o := ⟨_, Op.load 32 _, _, _, _, _⟩) ?_)
  unfold Halt
  refine heap_load (by rfl) _ rfl rfl HBH_8.out hs ?_
  clear bp' bq' lp lq q1 q2
  have HgX := Lib.hid (And.intro HU_8.out.size HTD_8.out.size)
  have HgK := Lib.hid HBK_8.out.lt
  go_wp2_with (with_reducible refine halt_at (o := ⟨_, Op.store 32 _ _, _, _, _, _⟩) ?_)
  unfold Halt
  refine heap_new (C := C) (by rfl) _ _ rfl rfl rfl rfl (by first | rfl | simp) hs rfl HONE.out ?_
  simp only [put_none]
  refine list_at (fun V9 hV => ?_)
  have kv : Up wc V9 := by rw [hV]; (repeat (first | with_reducible exact Up.refl _ | with_reducible refine Up.alloc ?_ _ | with_reducible refine Up.drew ?_ | with_reducible refine Up.drewN ?_ _))
  have nbX : Blk V9 (wc.heap.size) 32 C := by rw [hV]; (repeat (first | with_reducible exact Blk.new' _ (by simp) _ _ | with_reducible exact Blk.new _ _ _ | with_reducible refine Blk.alloc ?_ _ | with_reducible refine Blk.drew ?_))
  clear hV
  have HBH_9 := Lib.hid (HBH_8.out.up kv)
  have HBK_9 := Lib.hid (HBK_8.out.up kv)
  have HPK_9 := Lib.hid (HPK_8.out.up kv)
  have HPH_9 := Lib.hid (HPH_8.out.up kv)
  have HTD_9 := Lib.hid (HTD_8.out.trans kv)
  have HU_9 := Lib.hid (HU_8.out.trans kv)
  clear HBH_8 HBK_8 HPK_8 HPH_8 HTD_8 HU_8
  clear kv
  have HBX_9 := Lib.hid nbX
  clear nbX
  go_wp2_with (with_reducible refine halt_at (o := ⟨_, Op.load 32 _, _, _, _, _⟩) ?_)
  unfold Halt
  refine heap_load (by rfl) _ rfl rfl HBK_9.out HPK_9.out.size ?_
  have HgY := Lib.hid (And.intro HU_9.out.size HTD_9.out.size)
  have HgXY := Lib.hid HBX_9.out.lt
  go_wp2_with (with_reducible refine halt_at (o := ⟨_, Op.store 32 _ _, _, _, _, _⟩) ?_)
  unfold Halt
  refine heap_new (C := K) (by rfl) _ _ rfl rfl rfl rfl (by first | rfl | simp) HPK_9.out.size rfl HPK_9.out.one ?_
  simp only [put_none]
  refine list_at (fun V10 hV => ?_)
  have kv : Up V9 V10 := by rw [hV]; (repeat (first | with_reducible exact Up.refl _ | with_reducible refine Up.alloc ?_ _ | with_reducible refine Up.drew ?_ | with_reducible refine Up.drewN ?_ _))
  have nbY : Blk V10 (V9.heap.size) 32 K := by rw [hV]; (repeat (first | with_reducible exact Blk.new' _ (by simp) _ _ | with_reducible exact Blk.new _ _ _ | with_reducible refine Blk.alloc ?_ _ | with_reducible refine Blk.drew ?_))
  clear hV
  have HBH_10 := Lib.hid (HBH_9.out.up kv)
  have HBK_10 := Lib.hid (HBK_9.out.up kv)
  have HBX_10 := Lib.hid (HBX_9.out.up kv)
  have HPK_10 := Lib.hid (HPK_9.out.up kv)
  have HPH_10 := Lib.hid (HPH_9.out.up kv)
  have HTD_10 := Lib.hid (HTD_9.out.trans kv)
  have HU_10 := Lib.hid (HU_9.out.trans kv)
  clear HBH_9 HBK_9 HBX_9 HPK_9 HPH_9 HTD_9 HU_9
  clear kv
  have HBY_10 := Lib.hid nbY
  clear nbY
  have ah0 := gh0.out _ HU_10.out
  have ah1 := gh1.out _ HU_10.out
  have ah2 := gh2.out _ HU_10.out
  have ah3 := gh3.out _ HU_10.out
  have ah4 := gh4.out _ HU_10.out
  have ah5 := gh5.out _ HU_10.out
  have ah6 := gh6.out _ HU_10.out
  have ah7 := gh7.out _ HU_10.out
  simp only [Nat.zero_add, Nat.reduceAdd] at ah1 ah2 ah3 ah4 ah5 ah6 ah7
  have alh := HLh.out _ HU_10.out
  have xeh := (HXh.out _ HU_10.out).e
  have ah11 : V10.cell? ⟨(w.heap.size), 11, none⟩ = some (.slice (some ph) h.th.length cth) := by rw [HBH_10.out.cell, xeh]; rfl
  have ahl := HBH_10.out.lt
  clear xeh
  have x11 : V10.cell? ⟨(wc.heap.size), 11, none⟩ = some (.slice (some ph) h.th.length cth) := by rw [HBX_10.out.cell, ← ah11, HBH_10.out.cell]
  have xf := HBX_10.out.frozen
  have xl := HBX_10.out.lt
  rw [ent] at ah11 x11
  go_upto_region 16 with fail
  refine code_at (fun V11 hV => ?_)
  have HU11 := Lib.hid (show Up w V11 by rw [hV]; exact (HU_10.out.setCell HgX.out.1 _).alloc _)
  have HT11 := Lib.hid (show Up wd V11 by rw [hV]; exact (HTD_10.out.setCell HgX.out.2 _).alloc _)
  have HBX11 := Lib.hid (show Blk V11 (wc.heap.size) 32 (C.setIfInBounds 11 (.slice (some ⟨V10.heap.size, 0, none⟩) 1 1)) by rw [hV]; exact (HBX_10.out.set_ 11 _).alloc _)
  have HT1 := Lib.hid (show Blk V11 V10.heap.size 44 #[.slice Sh0 s0.st.length sh0, .int .i64 ubah, .int .i64 ubeh, .slice Sh1 s0.lg.length sh1, .slice Sh2 s0.lf.length sh2, .slice Sh3 s0.pd.length sh3, .bool uwth, .slice Sh4 s0.dn.length sh4] by rw [hV]; exact Blk.new' _ (by simp) _ _)
  have HBY11 := Lib.hid (show Blk V11 (V9.heap.size) 32 K by rw [hV]; exact (HBY_10.out.far (p := ⟨(wc.heap.size), 11, none⟩) (by have := HgXY.out; show (V9.heap.size) ≠ (wc.heap.size); omega) _).alloc _)
  have HBK_11 := Lib.hid (show Blk V11 (wd.heap.size) 32 K by rw [hV]; exact (HBK_10.out.far (p := ⟨(wc.heap.size), 11, none⟩) (by have := HgK.out; show (wd.heap.size) ≠ (wc.heap.size); omega) _).alloc _)
  have HWX := Lib.hid (show V10.heap.size < V11.heap.size from HT1.out.lt)
  clear hV x11 xf xl ah0 ah1 ah2 ah3 ah4 ah5 ah6 ah7 alh ah11 ahl HBX_10 HBY_10 HBK_10 HBH_10 HPH_10 HPK_10
  have ak0 := gk0.out _ HT11.out
  have ak1 := gk1.out _ HT11.out
  have ak2 := gk2.out _ HT11.out
  have ak3 := gk3.out _ HT11.out
  have ak4 := gk4.out _ HT11.out
  have ak5 := gk5.out _ HT11.out
  have ak6 := gk6.out _ HT11.out
  have ak7 := gk7.out _ HT11.out
  simp only [Nat.zero_add, Nat.reduceAdd] at ak1 ak2 ak3 ak4 ak5 ak6 ak7
  have alk := HLk.out _ HT11.out
  have xek := (HXk.out _ HT11.out).e
  have ak11 : V11.cell? ⟨(wd.heap.size), 11, none⟩ = some (.slice (some pk) k.th.length ctk) := by rw [HBK_11.out.cell, xek]; rfl
  have akl := HBK_11.out.lt
  clear xek
  have y11 : V11.cell? ⟨(V9.heap.size), 11, none⟩ = some (.slice (some pk) k.th.length ctk) := by rw [HBY11.out.cell, ← ak11, HBK_11.out.cell]
  have yf := HBY11.out.frozen
  have yl := HBY11.out.lt
  rw [HLEN.out, ent] at ak11 y11
  go_wp2_with (with_reducible refine halt_at (o := ⟨_, Op.load 32 _, _, _, _, _⟩) ?_)
  unfold Halt
  refine list_at (fun V12 hV => ?_)
  have HU12 := Lib.hid (show Up w V12 by rw [hV]; exact (HU11.out.setCell HgY.out.1 _).alloc _)
  have HT12 := Lib.hid (show Up wd V12 by rw [hV]; exact (HT11.out.setCell HgY.out.2 _).alloc _)
  have HBY12 := Lib.hid (show Blk V12 (V9.heap.size) 32 (K.setIfInBounds 11 (.slice (some ⟨V11.heap.size, 0, none⟩) 1 1)) by rw [hV]; exact (HBY11.out.set_ 11 _).alloc _)
  have HBX12 := Lib.hid (show Blk V12 (wc.heap.size) 32 (C.setIfInBounds 11 (.slice (some ⟨V10.heap.size, 0, none⟩) 1 1)) by rw [hV]; exact (HBX11.out.far (p := ⟨(V9.heap.size), 11, none⟩) (by have := HgXY.out; show (wc.heap.size) ≠ (V9.heap.size); omega) _).alloc _)
  have HT1b := Lib.hid (show Blk V12 V10.heap.size 44 #[.slice Sh0 s0.st.length sh0, .int .i64 ubah, .int .i64 ubeh, .slice Sh1 s0.lg.length sh1, .slice Sh2 s0.lf.length sh2, .slice Sh3 s0.pd.length sh3, .bool uwth, .slice Sh4 s0.dn.length sh4] by rw [hV]; exact (HT1.out.far (p := ⟨(V9.heap.size), 11, none⟩) (by have := HBY11.out.ne_type HT1.out (by decide); show V10.heap.size ≠ (V9.heap.size); exact fun e => this e.symm) _).alloc _)
  have HT2 := Lib.hid (show Blk V12 V11.heap.size 44 #[.slice Sk0 s0.st.length sk0, .int .i64 ubak, .int .i64 ubek, .slice Sk1 s0.lg.length sk1, .slice Sk2 s0.lf.length sk2, .slice Sk3 s0.pd.length sk3, .bool uwtk, .slice Sk4 s0.dn.length sk4] by rw [hV]; exact Blk.new' _ (by simp) _ _)
  clear hV y11 yf yl ak0 ak1 ak2 ak3 ak4 ak5 ak6 ak7 alk ak11 akl HBX11 HBY11 HT1 HBK_11
  have key : ∀ (V : World) (us1 : Tv) (g1 : Nat), Blk V g1 44 (tvc us1).toArray → Rc tvc V (.slice (some ⟨g1, 0, none⟩) 1 1) [us1] := fun V us1 g1 hb => ⟨_, 1, rfl, Nat.le_refl _, by unfold maxLen; decide, fun q => (by cases q), rv_of_blk hb fun i v hv => by rw [List.getElem?_toArray]; simpa using hv⟩
  have key2 : ∀ (V : World) (us1 : Tv), ThR V us1 s0 → ThsR V [us1] [s0] := fun V us1 r => ⟨rfl, fun j u t h1 h2 => by
    cases j with
    | zero => cases h1; cases h2; exact r
    | succ j => simp at h1⟩
  have HKEY := Lib.hid key
  have HKEY2 := Lib.hid key2
  clear key key2
  have HPX := Lib.hid (fun V (u : Up w V) (hb : Blk V V10.heap.size 44 #[.slice Sh0 s0.st.length sh0, .int .i64 ubah, .int .i64 ubeh, .slice Sh1 s0.lg.length sh1, .slice Sh2 s0.lf.length sh2, .slice Sh3 s0.pd.length sh3, .bool uwth, .slice Sh4 s0.dn.length sh4]) => (show HpR V (.agg (C.setIfInBounds 11 (.slice (some ⟨V10.heap.size, 0, none⟩) 1 1))) { h with th := [s0] } from by
    have X := HXh.out V u
    refine ⟨Ph, Qh, ch, dh, .slice (some ⟨V10.heap.size, 0, none⟩) 1 1, .slice Bh h.od.length coh, [_], ?_, X.s, HKEY.out V ⟨.slice Sh0 s0.st.length sh0, ubah, ubeh, .slice Sh1 s0.lg.length sh1, .slice Sh2 s0.lf.length sh2, .slice Sh3 s0.pd.length sh3, uwth, .slice Sh4 s0.dn.length sh4⟩ _ hb, HKEY2.out V _ (HRh.out V u), X.o⟩
    rw [X.e]
    rfl))
  have HPY := Lib.hid (show HpR V12 (.agg (K.setIfInBounds 11 (.slice (some ⟨V11.heap.size, 0, none⟩) 1 1))) { k with th := [s0] } from by
    have X := HXk.out V12 HT12.out
    refine ⟨Pk, Qk, ck, dk, .slice (some ⟨V11.heap.size, 0, none⟩) 1 1, .slice Bk k.od.length cok, [_], ?_, X.s, HKEY.out V12 ⟨.slice Sk0 s0.st.length sk0, ubak, ubek, .slice Sk1 s0.lg.length sk1, .slice Sk2 s0.lf.length sk2, .slice Sk3 s0.pd.length sk3, uwtk, .slice Sk4 s0.dn.length sk4⟩ _ HT2.out, HKEY2.out V12 _ (HRk.out V12 HT12.out), X.o⟩
    rw [X.e]
    rfl)
  refine heap_load (by rfl) _ rfl rfl HBY12.out HPY.out.size ?_
  go_wp2_with (with_reducible refine halt_at (o := ⟨_, Op.store 32 _ _, _, _, _, _⟩) ?_)
  unfold Halt
  refine heap_new (C := K.setIfInBounds 11 (.slice (some ⟨V11.heap.size, 0, none⟩) 1 1)) (by rfl) _ _ rfl rfl rfl rfl (by first | rfl | simp) HPY.out.size rfl HPY.out.one ?_
  simp only [put_none]
  refine list_at (fun V13 hV => ?_)
  have kv : Up V12 V13 := by rw [hV]; exact (Up.refl _).alloc _
  have bZ : Blk V13 V12.heap.size 32 (K.setIfInBounds 11 (.slice (some ⟨V11.heap.size, 0, none⟩) 1 1)) := by rw [hV]; exact Blk.new _ _ _
  clear hV
  have HU13 := Lib.hid (HU12.out.trans kv)
  have HT13 := Lib.hid (HT12.out.trans kv)
  have HBX13 := Lib.hid (HBX12.out.up kv)
  have HBY13 := Lib.hid (HBY12.out.up kv)
  have HT1c := Lib.hid (HT1b.out.up kv)
  have HT2c := Lib.hid (HT2.out.up kv)
  have HWZ := Lib.hid (And.intro HU12.out.size HT12.out.size)
  have HXZ := Lib.hid HBX12.out.lt
  have HYZ := Lib.hid HBY12.out.lt
  have HT1Z := Lib.hid HT1b.out.lt
  have HT2Z := Lib.hid HT2.out.lt
  clear kv HBX12 HBY12 HT1b HT2 HU12 HT12 HPY
  have xek := (HXk.out V13 HT13.out).e
  have xeh := (HXh.out V13 HU13.out).e
  rw [xek] at bZ
  unfold hpc at bZ
  rw [HDF.out.ts, HDF.out.ta, HDF.out.tl, HDF.out.sz, HDF.out.lo, HDF.out.ph, HDF.out.sc, HDF.out.fp, HDF.out.bk] at bZ
  replace bZ : Blk V13 V12.heap.size 32 #[.int .i64 k.m.n, .slice (some Pk) k.m.n ck, .slice (some Qk) k.m.n dk, .int .i64 k.fs, .int .i64 k.fa, .int .i64 k.fl, .int .i64 h.ts, .int .i64 h.ta, .int .i64 h.tl, .int .i64 h.sz, .int .i64 h.lg, .slice (some ⟨V11.heap.size, 0, none⟩) 1 1, .int .i64 h.ph, .int .i64 h.sc, .int .i64 h.fp, .slice Bk k.od.length cok, .int .i64 h.bk] := bZ
  have x0 : V13.cell? ⟨(wc.heap.size), 0, none⟩ = some (.int .i64 h.m.n) := by rw [HBX13.out.cell, xeh]; rfl
  have x1 : V13.cell? ⟨(wc.heap.size), 1, none⟩ = some (.slice (some Ph) h.m.n ch) := by rw [HBX13.out.cell, xeh]; rfl
  have x2 : V13.cell? ⟨(wc.heap.size), 2, none⟩ = some (.slice (some Qh) h.m.n dh) := by rw [HBX13.out.cell, xeh]; rfl
  have x3 : V13.cell? ⟨(wc.heap.size), 3, none⟩ = some (.int .i64 h.fs) := by rw [HBX13.out.cell, xeh]; rfl
  have x4 : V13.cell? ⟨(wc.heap.size), 4, none⟩ = some (.int .i64 h.fa) := by rw [HBX13.out.cell, xeh]; rfl
  have x5 : V13.cell? ⟨(wc.heap.size), 5, none⟩ = some (.int .i64 h.fl) := by rw [HBX13.out.cell, xeh]; rfl
  have x15 : V13.cell? ⟨(wc.heap.size), 15, none⟩ = some (.slice Bh h.od.length coh) := by rw [HBX13.out.cell, xeh]; rfl
  have xl := HBX13.out.lt
  have HBZ := Lib.hid bZ
  have zc := bZ.cell
  have zf := bZ.frozen
  have zl := bZ.lt
  have xz := HXZ.out
  clear bZ xek xeh
  go_wp2_with (with_reducible refine halt_at (o := ⟨_, Op.load 32 _, _, _, _, _⟩) ?_)
  unfold Halt
  refine list_at (fun V14 hV => ?_)
  have HBZ14 := Lib.hid (show Blk V14 V12.heap.size 32 #[.int .i64 h.m.n, .slice (some Ph) h.m.n ch, .slice (some Qh) h.m.n dh, .int .i64 h.fs, .int .i64 h.fa, .int .i64 h.fl, .int .i64 h.ts, .int .i64 h.ta, .int .i64 h.tl, .int .i64 h.sz, .int .i64 h.lg, .slice (some ⟨V11.heap.size, 0, none⟩) 1 1, .int .i64 h.ph, .int .i64 h.sc, .int .i64 h.fp, .slice Bh h.od.length coh, .int .i64 h.bk] by rw [hV]; exact (((((((HBZ.out.set_ 0 _).set_ 1 _).set_ 2 _).set_ 3 _).set_ 4 _).set_ 5 _).set_ 15 _))
  have HBX14 := Lib.hid (show Blk V14 (wc.heap.size) 32 (C.setIfInBounds 11 (.slice (some ⟨V10.heap.size, 0, none⟩) 1 1)) by rw [hV]; exact (((((((HBX13.out.far (p := ⟨V12.heap.size, 0, none⟩) (by have := HXZ.out; show (wc.heap.size) ≠ V12.heap.size; omega) _).far (p := ⟨V12.heap.size, 1, none⟩) (by have := HXZ.out; show (wc.heap.size) ≠ V12.heap.size; omega) _).far (p := ⟨V12.heap.size, 2, none⟩) (by have := HXZ.out; show (wc.heap.size) ≠ V12.heap.size; omega) _).far (p := ⟨V12.heap.size, 3, none⟩) (by have := HXZ.out; show (wc.heap.size) ≠ V12.heap.size; omega) _).far (p := ⟨V12.heap.size, 4, none⟩) (by have := HXZ.out; show (wc.heap.size) ≠ V12.heap.size; omega) _).far (p := ⟨V12.heap.size, 5, none⟩) (by have := HXZ.out; show (wc.heap.size) ≠ V12.heap.size; omega) _).far (p := ⟨V12.heap.size, 15, none⟩) (by have := HXZ.out; show (wc.heap.size) ≠ V12.heap.size; omega) _))
  have HBY14 := Lib.hid (show Blk V14 (V9.heap.size) 32 (K.setIfInBounds 11 (.slice (some ⟨V11.heap.size, 0, none⟩) 1 1)) by rw [hV]; exact (((((((HBY13.out.far (p := ⟨V12.heap.size, 0, none⟩) (by have := HYZ.out; show (V9.heap.size) ≠ V12.heap.size; omega) _).far (p := ⟨V12.heap.size, 1, none⟩) (by have := HYZ.out; show (V9.heap.size) ≠ V12.heap.size; omega) _).far (p := ⟨V12.heap.size, 2, none⟩) (by have := HYZ.out; show (V9.heap.size) ≠ V12.heap.size; omega) _).far (p := ⟨V12.heap.size, 3, none⟩) (by have := HYZ.out; show (V9.heap.size) ≠ V12.heap.size; omega) _).far (p := ⟨V12.heap.size, 4, none⟩) (by have := HYZ.out; show (V9.heap.size) ≠ V12.heap.size; omega) _).far (p := ⟨V12.heap.size, 5, none⟩) (by have := HYZ.out; show (V9.heap.size) ≠ V12.heap.size; omega) _).far (p := ⟨V12.heap.size, 15, none⟩) (by have := HYZ.out; show (V9.heap.size) ≠ V12.heap.size; omega) _))
  have HT1d := Lib.hid (show Blk V14 V10.heap.size 44 #[.slice Sh0 s0.st.length sh0, .int .i64 ubah, .int .i64 ubeh, .slice Sh1 s0.lg.length sh1, .slice Sh2 s0.lf.length sh2, .slice Sh3 s0.pd.length sh3, .bool uwth, .slice Sh4 s0.dn.length sh4] by rw [hV]; exact (((((((HT1c.out.far (p := ⟨V12.heap.size, 0, none⟩) (by have := HT1Z.out; show V10.heap.size ≠ V12.heap.size; omega) _).far (p := ⟨V12.heap.size, 1, none⟩) (by have := HT1Z.out; show V10.heap.size ≠ V12.heap.size; omega) _).far (p := ⟨V12.heap.size, 2, none⟩) (by have := HT1Z.out; show V10.heap.size ≠ V12.heap.size; omega) _).far (p := ⟨V12.heap.size, 3, none⟩) (by have := HT1Z.out; show V10.heap.size ≠ V12.heap.size; omega) _).far (p := ⟨V12.heap.size, 4, none⟩) (by have := HT1Z.out; show V10.heap.size ≠ V12.heap.size; omega) _).far (p := ⟨V12.heap.size, 5, none⟩) (by have := HT1Z.out; show V10.heap.size ≠ V12.heap.size; omega) _).far (p := ⟨V12.heap.size, 15, none⟩) (by have := HT1Z.out; show V10.heap.size ≠ V12.heap.size; omega) _))
  have HT2d := Lib.hid (show Blk V14 V11.heap.size 44 #[.slice Sk0 s0.st.length sk0, .int .i64 ubak, .int .i64 ubek, .slice Sk1 s0.lg.length sk1, .slice Sk2 s0.lf.length sk2, .slice Sk3 s0.pd.length sk3, .bool uwtk, .slice Sk4 s0.dn.length sk4] by rw [hV]; exact (((((((HT2c.out.far (p := ⟨V12.heap.size, 0, none⟩) (by have := HT2Z.out; show V11.heap.size ≠ V12.heap.size; omega) _).far (p := ⟨V12.heap.size, 1, none⟩) (by have := HT2Z.out; show V11.heap.size ≠ V12.heap.size; omega) _).far (p := ⟨V12.heap.size, 2, none⟩) (by have := HT2Z.out; show V11.heap.size ≠ V12.heap.size; omega) _).far (p := ⟨V12.heap.size, 3, none⟩) (by have := HT2Z.out; show V11.heap.size ≠ V12.heap.size; omega) _).far (p := ⟨V12.heap.size, 4, none⟩) (by have := HT2Z.out; show V11.heap.size ≠ V12.heap.size; omega) _).far (p := ⟨V12.heap.size, 5, none⟩) (by have := HT2Z.out; show V11.heap.size ≠ V12.heap.size; omega) _).far (p := ⟨V12.heap.size, 15, none⟩) (by have := HT2Z.out; show V11.heap.size ≠ V12.heap.size; omega) _))
  have HU14 := Lib.hid (show Up w V14 by rw [hV]; exact (((((((HU13.out.setCell HWZ.out.1 _).setCell HWZ.out.1 _).setCell HWZ.out.1 _).setCell HWZ.out.1 _).setCell HWZ.out.1 _).setCell HWZ.out.1 _).setCell HWZ.out.1 _))
  have HT14 := Lib.hid (show Up wd V14 by rw [hV]; exact (((((((HT13.out.setCell HWZ.out.2 _).setCell HWZ.out.2 _).setCell HWZ.out.2 _).setCell HWZ.out.2 _).setCell HWZ.out.2 _).setCell HWZ.out.2 _).setCell HWZ.out.2 _))
  clear hV x0 x1 x2 x3 x4 x5 x15 xl zc zf zl xz HBX13 HBY13 HT1c HT2c HU13 HT13 HBZ
  have HPZ := Lib.hid (show HpR V14 (.agg #[.int .i64 h.m.n, .slice (some Ph) h.m.n ch, .slice (some Qh) h.m.n dh, .int .i64 h.fs, .int .i64 h.fa, .int .i64 h.fl, .int .i64 h.ts, .int .i64 h.ta, .int .i64 h.tl, .int .i64 h.sz, .int .i64 h.lg, .slice (some ⟨V11.heap.size, 0, none⟩) 1 1, .int .i64 h.ph, .int .i64 h.sc, .int .i64 h.fp, .slice Bh h.od.length coh, .int .i64 h.bk]) { h with th := [s0] } from by
    have X := HXh.out V14 HU14.out
    exact ⟨Ph, Qh, ch, dh, .slice (some ⟨V11.heap.size, 0, none⟩) 1 1, .slice Bh h.od.length coh, [_], rfl, X.s, HKEY.out V14 ⟨.slice Sk0 s0.st.length sk0, ubak, ubek, .slice Sk1 s0.lg.length sk1, .slice Sk2 s0.lf.length sk2, .slice Sk3 s0.pd.length sk3, uwtk, .slice Sk4 s0.dn.length sk4⟩ _ HT2d.out, HKEY2.out V14 _ (HRk.out V14 HT14.out), X.o⟩)
  have HPX' := Lib.hid (HPX.out V14 HU14.out HT1d.out)
  refine heap_load (C := #[.int .i64 h.m.n, .slice (some Ph) h.m.n ch, .slice (some Qh) h.m.n dh, .int .i64 h.fs, .int .i64 h.fa, .int .i64 h.fl, .int .i64 h.ts, .int .i64 h.ta, .int .i64 h.tl, .int .i64 h.sz, .int .i64 h.lg, .slice (some ⟨V11.heap.size, 0, none⟩) 1 1, .int .i64 h.ph, .int .i64 h.sc, .int .i64 h.fp, .slice Bh h.od.length coh, .int .i64 h.bk]) (by rfl) _ rfl rfl HBZ14.out HPZ.out.size ?_
  go_wp2_with (with_reducible refine halt_at (o := ⟨_, Op.load 32 _, _, _, _, _⟩) ?_)
  unfold Halt
  refine heap_load (by rfl) _ rfl rfl HBX14.out HPX'.out.size ?_
  have HQ := Lib.hid (same_c HPZ.out HPX'.out)
  have y11 : V14.cell? ⟨(V9.heap.size), 11, none⟩ = some (.slice (some ⟨V11.heap.size, 0, none⟩) 1 1) := by rw [HBY14.out.cell, (HXk.out V14 HT14.out).e]; rfl
  have yl := HBY14.out.lt
  go_wp2_with (fail)
  refine HQ.out.mono ?_
  rintro e wz ⟨rfl, kz⟩
  have y12 := kz.cell y11
  have U15 := Lib.hid (HU14.out.trans kz)
  clear y11 yl kz
  go_wp2
  go_ret
  exact ⟨rfl, U15.out⟩
set_option maxRecDepth 100000 in
set_option maxHeartbeats 16000000 in
theorem walk {C : Array Value} {B : Nat} {L : Prop} {N : Int} {A0 A1 : Option Addr} {n0 n1 c0 c1 : Nat} {h : Hp} {vt vo : Value} {us : List Tv} (th oth : Int) (w : World) (hA : HeapAt w C B L N A0 A1 n0 n1 c0 c1 h vt vo us) (hL : L) :
    Calls Tryz.prog 3 #[.agg C, .int .i64 th, .int .i64 oth] w fun e w' => e = .returned (.bool true) ∧ Up w w' := by
  have HF := hA.few
  by_cases hf : fewH N n0 n1 h = true
  · rw [hf] at HF
    obtain ⟨r, hN, hNn, hR, hG, hF0⟩ := hA.hp hf
    have hF := hF0 hL
    have r0 : RgP h.m.n h.m.n h.m.n h := by
      have q := r.m
      refine ⟨?_, r.f, r.t, r.ne, by rw [r.fl, hNn], by rw [r.tl, hNn], r.sz0, r.sz1, r.lg0, r.lg1, r.n0, r.n1, r.th, r.ph0, r.ph1, r.sc0, r.sc1⟩
      unfold rt at q ⊢
      have q := of_decide_eq_true q
      exact decide_eq_true (by omega)
    by_cases hc : canB h th = true
    · obtain ⟨j, t, t', rfl, hbk, hct, D, cs⟩ := did_cases hF hG hc
      have HRG := Lib.hid (show rgH (didH h (j : Int)).m.n (didH h (j : Int)).m.n (didH h (j : Int)).m.n (didH h (j : Int)) = true from rgH_yes (by rw [D.n]; exact D.rgP r0))
      by_cases o0 : oth < 0
      · exact walk_neg C h j oth t t' w hA.size (Lib.hid HF) hR hF hG hc D HRG (Lib.hid hA.one) o0
      · by_cases o1 : (h.th.length : Int) ≤ oth
        · exact walk_big C h j oth t t' w hA.size (Lib.hid HF) hR hF hG hc D HRG (Lib.hid hA.one) ⟨by omega, o1⟩
        · by_cases o2 : oth = (j : Int)
          · exact walk_same C h j oth t t' w hA.size (Lib.hid HF) hR hF hG hc D HRG (Lib.hid hA.one) o2
          · obtain ⟨i, rfl⟩ : ∃ i : Nat, oth = i := ⟨oth.toNat, by omega⟩
            have hi : i < h.th.length := by omega
            exact walk_i C h j (i : Int) t t' w hA.size (Lib.hid HF) hR hF hG hc D HRG (Lib.hid hA.one) i _ (Lib.hid hi) (Lib.hid (fun e => o2 (by rw [e]))) (Lib.hid (List.getElem?_eq_getElem hi)) rfl
    · exact walk_cant C h th oth w hA.size (Lib.hid HF) hR hF hG (Lib.hid (rgH_yes r0)) (by simpa using hc)
  · have hf' : fewH N n0 n1 h = false := by simpa using hf
    rw [hf'] at HF
    exact walk_no C th oth w hA.size (Lib.hid HF)
theorem own : ownKnob Tryz.prog.godebug = none := by kernel_rfl
set_option maxRecDepth 100000 in
theorem lifted (os : Os) (started : os.Started) (H : Type) (enc : TypeId × Value → H) :
    ReturnsInHanded {} Tryz.checked os 3 .any (Rows.actStaysSpec.pre6 enc Tryz.prog Tryz.f3 Rows.actStaysRow.domain false) (Rows.actStaysSpec.post enc Tryz.prog Tryz.f3 false true false false) := by
  refine returnsInHanded_of_change_sized (C := Tryz.checked) own started (by kernel_rfl) Tryz.func3
    (ChangeSpec.witness6 (enc := enc) (C := Tryz.checked) false ⟨#[], #[.agg #[.int .i64 0, .slice none 0 0, .slice none 0 0, .int .i64 0, .int .i64 0, .int .i64 0, .int .i64 0, .int .i64 0, .int .i64 0, .int .i64 0, .int .i64 0, .slice none 0 0, .int .i64 0, .int .i64 0, .int .i64 0, .slice none 0 0, .int .i64 0], .int .i64 0, .int .i64 0], []⟩ 8 (by kernel_rfl) (by kernel_rfl) (by kernel_rfl) (by kernel_rfl)) ?_
  intro W base args ds gs before hval0 hW hcnd hsz0 _
  have hval : ∀ (j : Nat) t v, Tryz.f3.params[j]? = some t → args[j]? = some v → Value.okWide Tryz.prog W .any base t v := hval0
  have hW' := hW
  obtain ⟨p, q, hA0, hV, rfl, hfz, hnd⟩ := hW
  have hA : DataW.TrodAll enc Tryz.prog W 0 (fun _ => true) true Tryz.f3.params.toList args.toList ds p := hA0
  rw [Tryz.params3] at hA hval
  obtain ⟨v0, vs0, d0, ds0, p0, q0, hargs, rfl, rfl, h0, r0⟩ := trodAll_cons hA
  obtain ⟨v1, vs1, d1, ds1, p1, q1, rfl, rfl, rfl, h1, r1⟩ := trodAll_cons r0
  obtain ⟨v2, vs2, d2, ds2, p2, q2, rfl, rfl, rfl, h2, r2⟩ := trodAll_cons r1
  obtain ⟨rfl, rfl, rfl⟩ := trodAll_nil r2
  obtain rfl : args = #[v0, v1, v2] := by cases args; simp_all
  obtain ⟨rfl, rfl⟩ := trodVars_none hV
  have l0 : Light 32 d0 := fun n hn => by
    have := List.all_eq_true.1 hsz0 n (DataW.weights_mem_each (j := 0) (t := 32) (d := d0) (by kernel_rfl) rfl n hn)
    simpa using this
  clear hsz0
  have h0k := h0
  obtain ⟨C, N, A0, A1, n0, n1, c0, c1, hp, vt, vo, us, rfl, hHA⟩ := heap_at (hval 0 32 v0 rfl rfl) h0
  obtain ⟨a1, rfl, rfl, rfl, w1⟩ := open_int Tryz.underlying3 (hval 1 3 v1 rfl rfl) h1
  obtain ⟨a2, rfl, rfl, rfl, w2⟩ := open_int Tryz.underlying3 (hval 2 3 v2 rfl rfl) h2
  clear hA0 hval0
  simp only [List.append_nil, List.nil_append] at hW'
  refine (walk a1 a2 W hHA l0).mono fun e W' ⟨he, hg⟩ => ?_
  subst he
  exact ⟨_, rfl, post_below (pa := p0) (pv := []) hW' (fun _ _ _ => (trodAll_cons_mk (shut_bool Tryz.underlying4 _) trodAll_mk0))
    (fun sp hsp => by
      have t := (trodAll_cons_mk (trod_keeps (sp := sp) (by kernel_rfl) (of_decide_eq_true (by kernel_rfl)) h0k hg (fun x hx => hW'.lt x (by simp [hx])) (fun x hx => hsp x (by simp [hx]))) (trodAll_cons_mk (shut_int Tryz.underlying3 w1) (trodAll_cons_mk (shut_int Tryz.underlying3 w2) trodAll_mk0)))
      simp only [List.append_nil, List.nil_append] at t
      exact t) (fun _ _ => rfl) (by simp)
    hg (ok_one (by kernel_rfl) rfl (okWide_bool_mk Tryz.underlying4 _))⟩

set_option maxRecDepth 100000 in
theorem over : Rows.actStaysRow.holds Tryz.pinned (OpenSpec.ofChange Rows.actStaysSpec) :=
  OpenClaim.holds_of_wide 3 Tryz.f3 rfl rfl rfl rfl rfl rfl rfl ⟨rfl, rfl, rfl, rfl, rfl⟩ rfl rfl rfl rfl rfl (by kernel_rfl) Tryz.func3 (by kernel_rfl)
    (of_decide_eq_true (by kernel_rfl)) (by unfold Func.isWrapper; first | (rw [if_pos (by decide +kernel)]; kernel_rfl) | (rw [if_neg (by decide +kernel)]; exact ⟨rfl, rfl⟩))
    (fun os started H enc _ => lifted os started H enc)

theorem proved : Rows.ActStaysSaid :=
  over
#print axioms proved
end Go.Proofs.YtddoljfkbkbfjaaGreat.T.LActStays
