/- an answer is the last one of the thread's, its operation is gone, and its place stands last; no other thread changes: proved for every heap, thread and answer. -/
import Derived.Test.YtddoljfkbkbfjaaGreatWd
import Derived.Deep.CutRange
import Derived.Deep.MidRow
import Derived.BigQuiet
namespace Go.Proofs.YtddoljfkbkbfjaaGreat.T.LActAnswers
open G
open Go.Joins Go.ChangeShapes Go.WideShapes Go.ChangeAt Go.RowKit Go.Deep Go.Shelf Go.Maps
set_option linter.unusedVariables false
set_option linter.unusedSimpArgs false

theorem heap_mid {ops : Array Oper} {rest : List Oper} {o : Oper} {a : Act} {w : World} {Q : Exit → Act → World → Prop} {g : Nat} {C : Array Value} (hw : Region.wanted o (yielded ops a.tmps) = true) (x : Operand) (ho : o.op = .load 32 x) (hx : a.eval x = .pointer (some ⟨g, 0, none⟩)) (hb : w.rangeAt g 0 C.toList) (hs : C.size = 17)
    (h : wpList Tryz.prog ops Q rest (a.put o.dst (.agg C)) w) : wpList Tryz.prog ops Q (o :: rest) a w :=
  BigFrame.wpList_want hw fun K hK => wp_load_mid 32 x ho g 0 hx C.toList _ hb Tryz.underlying32 rfl (by rw [Array.length_toList, hs]; exact heap_info) (hK _ _ (by rw [Array.toArray_toList]; exact h))
theorem cells_ain : Tryz.prog.cellsOf 69 = 22 := by kernel_rfl
set_option maxRecDepth 100000 in
theorem ain_at {H : Type} {ec : TypeId × Value → H} {w : World} {r : Reach} {b0 : Nat} {v : Value} {d : DataW H} {p : List MemPlace} (hv : Value.okWide Tryz.prog w r b0 69 v) (h : DataW.Trod ec Tryz.prog w 0 (fun _ => true) true 69 v d p) :
    ∃ (C : Array Value) (B : Nat) (L : Prop) (N : Int) (A0 A1 : Option Addr) (n0 n1 c0 c1 : Nat) (hp : Hp) (vt vo : Value) (us : List Tv) (th : Int) (a : An) (oth : Int), v = .agg (C.toList ++ ([.int .i64 th, .int .i64 a.1, .int .u64 a.2.1, .bool a.2.2, .int .i64 oth] : List Value)).toArray ∧ HeapAt w C B L N A0 A1 n0 n1 c0 c1 hp vt vo us ∧ (Light 69 d → L) := by
  obtain ⟨⟨l⟩, rfl, hsz⟩ := okWide_struct Tryz.underlying69 hv
  obtain ⟨fuel, hf⟩ := h
  obtain ⟨ys, n, _, hd, hcl, hlen, hg⟩ := DataW.trod_struct Tryz.underlying69 hf
  rw [cells_ain] at hcl
  match l, hcl with
  | [c0, c1, c2, c3, c4, c5, c6, c7, c8, c9, c10, c11, c12, c13, c14, c15, c16, c17, c18, c19, c20, c21], _ =>
    have f0 := hg 0 _ rfl
    have f1 := hg 1 _ rfl
    have f2 := hg 2 _ rfl
    have f3 := hg 3 _ rfl
    match ys, hlen with
    | [y0, y1, y2, y3], _ =>
      change DataW.trod _ Tryz.prog w 0 (fun _ => true) true n 32 (([c0, c1, c2, c3, c4, c5, c6, c7, c8, c9, c10, c11, c12, c13, c14, c15, c16, c17, c18, c19, c20, c21].drop 0).take (Tryz.prog.cellsOf 32)) = some y0 at f0
      change DataW.trod _ Tryz.prog w 0 (fun _ => true) true n 3 (([c0, c1, c2, c3, c4, c5, c6, c7, c8, c9, c10, c11, c12, c13, c14, c15, c16, c17, c18, c19, c20, c21].drop 17).take (Tryz.prog.cellsOf 3)) = some y1 at f1
      change DataW.trod _ Tryz.prog w 0 (fun _ => true) true n 56 (([c0, c1, c2, c3, c4, c5, c6, c7, c8, c9, c10, c11, c12, c13, c14, c15, c16, c17, c18, c19, c20, c21].drop 18).take (Tryz.prog.cellsOf 56)) = some y2 at f2
      change DataW.trod _ Tryz.prog w 0 (fun _ => true) true n 3 (([c0, c1, c2, c3, c4, c5, c6, c7, c8, c9, c10, c11, c12, c13, c14, c15, c16, c17, c18, c19, c20, c21].drop 21).take (Tryz.prog.cellsOf 3)) = some y3 at f3
      rw [cells_heap] at f0
      rw [cells_int] at f1 f3
      rw [cells_ans] at f2
      obtain ⟨N, A0, A1, n0, n1, k0, k1, hp, vt, vo, us, k⟩ := heap_cells (cs := [c0, c1, c2, c3, c4, c5, c6, c7, c8, c9, c10, c11, c12, c13, c14, c15, c16]) f0
      obtain ⟨th, rfl, i1⟩ := int_at (v := c17) f1
      obtain ⟨a, e, i2⟩ := ans_cells (cs := [c18, c19, c20]) f2
      obtain ⟨oth, rfl, i3⟩ := int_at (v := c21) f3
      unfold anc at e
      simp only [List.cons.injEq, and_true] at e
      obtain ⟨rfl, rfl, rfl⟩ := e
      refine ⟨⟨[c0, c1, c2, c3, c4, c5, c6, c7, c8, c9, c10, c11, c12, c13, c14, c15, c16]⟩, _, _, N, A0, A1, n0, n1, k0, k1, hp, vt, vo, us, th, a, oth, rfl, ⟨k⟩, fun hL => ?_⟩
      simp only [Prod.mk.injEq] at hd
      obtain ⟨rfl, -⟩ := hd
      exact fun n hn => hL n (by
        unfold DataW.weights
        rw [Tryz.underlying69]
        exact DataW.weights_mem_each (j := 0) rfl rfl n hn)
/-- The cells of what came in. -/
structure In22 (C D : Array Value) (th : Int) (a : An) (oth : Int) : Prop where
  r : ∀ (i : Nat) v, C.toList[i]? = some v → D[i]? = some v
  t : D[17]? = some (.int .i64 th)
  a0 : D[18]? = some (.int .i64 a.1)
  a1 : D[19]? = some (.int .u64 a.2.1)
  a2 : D[20]? = some (.bool a.2.2)
  o : D[21]? = some (.int .i64 oth)
theorem in22 {C : Array Value} (hs : C.size = 17) (th : Int) (a : An) (oth : Int) : In22 C (C.toList ++ ([.int .i64 th, .int .i64 a.1, .int .u64 a.2.1, .bool a.2.2, .int .i64 oth] : List Value)).toArray th a oth := by
  have hl : C.toList.length = 17 := by rw [Array.length_toList, hs]
  have key : ∀ (i : Nat) (R : List Value) v, R[i]? = some v → (C.toList ++ R).toArray[17 + i]? = some v := fun i R v q => by
    rw [List.getElem?_toArray, List.getElem?_append_right (by omega), hl, Nat.add_sub_cancel_left]
    exact q
  refine ⟨fun i v q => ?_, key 0 _ _ rfl, key 1 _ _ rfl, key 2 _ _ rfl, key 3 _ _ rfl, key 4 _ _ rfl⟩
  rw [List.getElem?_toArray, List.getElem?_append_left]
  · exact q
  · rcases Nat.lt_or_ge i C.toList.length with z | z
    · exact z
    · rw [List.getElem?_eq_none z] at q; cases q
theorem code_at {P : Program} {c : Code} {a : Act} {w : World} {Q : Exit → Act → World → Prop} (h : ∀ V, V = w → Code.wp P c Q a V) : Code.wp P c Q a w := h w rfl
set_option maxRecDepth 100000 in
set_option maxHeartbeats 16000000 in
theorem walk_no (C G : Array Value) (th : Int) (a : An) (oth : Int) (w : World) (hs : C.size = 17) (hone : C.all (·.oneCell') = true) (hi : In22 C G th a oth) (HFEW : Hid (∀ W, Up w W → Calls Tryz.prog 10 #[.agg C] W fun e w' => e = .returned (.bool false) ∧ Up W w')) :
    Calls Tryz.prog 8 #[.agg G] w fun e w' => e = .returned (.bool true) ∧ Up w w' := by
  have HI := Lib.hid hi
  have HONE := Lib.hid hone
  clear hi hone
  go_enter Tryz.func8, Tryz.ntmps8
  go_wp2_with (with_reducible refine halt_at (o := ⟨_, Op.load 32 _, _, _, _, _⟩) ?_)
  unfold Halt
  refine list_at (fun V1 hV => ?_)
  have kv : Up w V1 := by rw [hV]; (repeat (first | with_reducible exact Up.refl _ | with_reducible refine Up.alloc ?_ _ | with_reducible refine Up.drew ?_ | with_reducible refine Up.drewN ?_ _))
  have nbI : Blk V1 (w.heap.size) 69 G := by rw [hV]; (repeat (first | with_reducible exact Blk.new' _ (by simp) _ _ | with_reducible exact Blk.new _ _ _ | with_reducible refine Blk.alloc ?_ _ | with_reducible refine Blk.drew ?_))
  clear hV
  have HU_1 := Lib.hid (kv)
  clear kv
  have HBI_1 := Lib.hid nbI
  clear nbI
  have hra : V1.rangeAt (w.heap.size) 0 C.toList := fun i v q => by
    rw [Nat.zero_add, HBI_1.out.cell]
    exact HI.out.r i v q
  have HRA := Lib.hid hra
  clear hra
  have j17 : V1.cell? ⟨(w.heap.size), 17, none⟩ = some (.int .i64 th) := by rw [HBI_1.out.cell]; exact HI.out.t
  have j18 : V1.cell? ⟨(w.heap.size), 18, none⟩ = some (.int .i64 a.1) := by rw [HBI_1.out.cell]; exact HI.out.a0
  have j19 : V1.cell? ⟨(w.heap.size), 19, none⟩ = some (.int .u64 a.2.1) := by rw [HBI_1.out.cell]; exact HI.out.a1
  have j20 : V1.cell? ⟨(w.heap.size), 20, none⟩ = some (.bool a.2.2) := by rw [HBI_1.out.cell]; exact HI.out.a2
  have j21 : V1.cell? ⟨(w.heap.size), 21, none⟩ = some (.int .i64 oth) := by rw [HBI_1.out.cell]; exact HI.out.o
  have jl := HBI_1.out.lt
  refine heap_mid (by rfl) _ rfl rfl HRA.out hs ?_
  go_wp2_with (with_reducible refine halt_at (o := ⟨_, Op.store 32 _ _, _, _, _, _⟩) ?_)
  unfold Halt
  refine heap_new (C := C) (by rfl) _ _ rfl rfl rfl rfl (by first | rfl | simp) hs rfl HONE.out ?_
  simp only [put_none]
  refine list_at (fun V2 hV => ?_)
  have kv : Up V1 V2 := by rw [hV]; (repeat (first | with_reducible exact Up.refl _ | with_reducible refine Up.alloc ?_ _ | with_reducible refine Up.drew ?_ | with_reducible refine Up.drewN ?_ _))
  have nbH : Blk V2 (V1.heap.size) 32 C := by rw [hV]; (repeat (first | with_reducible exact Blk.new' _ (by simp) _ _ | with_reducible exact Blk.new _ _ _ | with_reducible refine Blk.alloc ?_ _ | with_reducible refine Blk.drew ?_))
  have kv2 := kv
  clear hV
  have HBI_2 := Lib.hid (HBI_1.out.up kv)
  have HU_2 := Lib.hid (HU_1.out.trans kv)
  clear HBI_1 HU_1
  clear kv
  have HBH_2 := Lib.hid nbH
  clear nbH
  have y17 := kv2.cell j17
  have y18 := kv2.cell j18
  have y19 := kv2.cell j19
  have y20 := kv2.cell j20
  have y21 := kv2.cell j21
  have yl := HBI_2.out.lt
  clear j17 j18 j19 j20 j21 jl kv2 HRA
  go_wp2_with (fail)
  clear y17 y18 y19 y20 y21 yl
  refine calls_at (fun V3 hV => ?_)
  have kv : Up V2 V3 := by rw [hV]; (repeat (first | with_reducible exact Up.refl _ | with_reducible refine Up.alloc ?_ _ | with_reducible refine Up.drew ?_ | with_reducible refine Up.drewN ?_ _))
  have nbA : Blk V3 (V2.heap.size) 56 #[.int .i64 a.1, .int .u64 a.2.1, .bool a.2.2] := by rw [hV]; (repeat (first | with_reducible exact Blk.new' _ (by simp) _ _ | with_reducible exact Blk.new _ _ _ | with_reducible refine Blk.alloc ?_ _ | with_reducible refine Blk.drew ?_))
  clear hV
  have HBI_3 := Lib.hid (HBI_2.out.up kv)
  have HBH_3 := Lib.hid (HBH_2.out.up kv)
  have HU_3 := Lib.hid (HU_2.out.trans kv)
  clear HBI_2 HBH_2 HU_2
  clear kv
  have HBA_3 := Lib.hid nbA
  clear nbA
  refine (shown17 V3).mono ?_
  rintro e w4 ⟨rfl, k3⟩
  have HBI_4 := Lib.hid (HBI_3.out.up k3)
  have HBH_4 := Lib.hid (HBH_3.out.up k3)
  have HBA_4 := Lib.hid (HBA_3.out.up k3)
  have HU_4 := Lib.hid (HU_3.out.trans k3)
  clear HBI_3 HBH_3 HBA_3 HU_3
  clear k3
  go_wp2_with (with_reducible refine halt_at (o := ⟨_, Op.load 32 _, _, _, _, _⟩) ?_)
  unfold Halt
  refine heap_load (by rfl) _ rfl rfl HBH_4.out hs ?_
  go_wp2_with (fail)
  refine calls_at (fun V5 hV => ?_)
  have kv : Up w4 V5 := by rw [hV]; (repeat (first | with_reducible exact Up.refl _ | with_reducible refine Up.alloc ?_ _ | with_reducible refine Up.drew ?_ | with_reducible refine Up.drewN ?_ _))
  clear hV
  have HBI_5 := Lib.hid (HBI_4.out.up kv)
  have HBH_5 := Lib.hid (HBH_4.out.up kv)
  have HBA_5 := Lib.hid (HBA_4.out.up kv)
  have HU_5 := Lib.hid (HU_4.out.trans kv)
  clear HBI_4 HBH_4 HBA_4 HU_4
  clear kv
  refine (HFEW.out V5 HU_5.out).mono ?_
  rintro e w6 ⟨rfl, k5⟩
  have HBI_6 := Lib.hid (HBI_5.out.up k5)
  have HBH_6 := Lib.hid (HBH_5.out.up k5)
  have HBA_6 := Lib.hid (HBA_5.out.up k5)
  have HU_6 := Lib.hid (HU_5.out.trans k5)
  clear HBI_5 HBH_5 HBA_5 HU_5
  clear k5
  go_wp2
  go_ret
  exact ⟨rfl, (by (repeat (first | with_reducible exact HU_6.out | with_reducible refine Up.alloc ?_ _ | with_reducible refine Up.drew ?_ | with_reducible refine Up.drewN ?_ _)))⟩
set_option maxRecDepth 100000 in
set_option maxHeartbeats 16000000 in
theorem walk_neg (C G : Array Value) (h : Hp) (th : Int) (a : An) (oth : Int) (w : World) (hs : C.size = 17) (hone : C.all (·.oneCell') = true) (hi : In22 C G th a oth) (HFEW : Hid (∀ W, Up w W → Calls Tryz.prog 10 #[.agg C] W fun e w' => e = .returned (.bool true) ∧ Up W w')) (hR : HpR w (.agg C) h) (hF : HpF h) (HNI : Hid (¬ (0 ≤ th ∧ th < h.th.length))) (hno : th < 0) :
    Calls Tryz.prog 8 #[.agg G] w fun e w' => e = .returned (.bool true) ∧ Up w w' := by
  have HI := Lib.hid hi
  have HONE := Lib.hid hone
  have HP0 := Lib.hid (fun W (u : Up w W) => hR.up u)
  have HDO := Lib.hid (fun W (u : Up w W) => answer_c (hR.up u) hF a th)
  have HNO := Lib.hid hno
  clear hi hone hR hF hno
  rw [show answered h th a = h from by unfold answered; rw [if_neg HNI.out]] at HDO
  go_enter Tryz.func8, Tryz.ntmps8
  go_wp2_with (with_reducible refine halt_at (o := ⟨_, Op.load 32 _, _, _, _, _⟩) ?_)
  unfold Halt
  refine list_at (fun V1 hV => ?_)
  have kv : Up w V1 := by rw [hV]; (repeat (first | with_reducible exact Up.refl _ | with_reducible refine Up.alloc ?_ _ | with_reducible refine Up.drew ?_ | with_reducible refine Up.drewN ?_ _))
  have nbI : Blk V1 (w.heap.size) 69 G := by rw [hV]; (repeat (first | with_reducible exact Blk.new' _ (by simp) _ _ | with_reducible exact Blk.new _ _ _ | with_reducible refine Blk.alloc ?_ _ | with_reducible refine Blk.drew ?_))
  clear hV
  have HU_1 := Lib.hid (kv)
  clear kv
  have HBI_1 := Lib.hid nbI
  clear nbI
  have hra : V1.rangeAt (w.heap.size) 0 C.toList := fun i v q => by
    rw [Nat.zero_add, HBI_1.out.cell]
    exact HI.out.r i v q
  have HRA := Lib.hid hra
  clear hra
  have j17 : V1.cell? ⟨(w.heap.size), 17, none⟩ = some (.int .i64 th) := by rw [HBI_1.out.cell]; exact HI.out.t
  have j18 : V1.cell? ⟨(w.heap.size), 18, none⟩ = some (.int .i64 a.1) := by rw [HBI_1.out.cell]; exact HI.out.a0
  have j19 : V1.cell? ⟨(w.heap.size), 19, none⟩ = some (.int .u64 a.2.1) := by rw [HBI_1.out.cell]; exact HI.out.a1
  have j20 : V1.cell? ⟨(w.heap.size), 20, none⟩ = some (.bool a.2.2) := by rw [HBI_1.out.cell]; exact HI.out.a2
  have j21 : V1.cell? ⟨(w.heap.size), 21, none⟩ = some (.int .i64 oth) := by rw [HBI_1.out.cell]; exact HI.out.o
  have jl := HBI_1.out.lt
  refine heap_mid (by rfl) _ rfl rfl HRA.out hs ?_
  go_wp2_with (with_reducible refine halt_at (o := ⟨_, Op.store 32 _ _, _, _, _, _⟩) ?_)
  unfold Halt
  refine heap_new (C := C) (by rfl) _ _ rfl rfl rfl rfl (by first | rfl | simp) hs rfl HONE.out ?_
  simp only [put_none]
  refine list_at (fun V2 hV => ?_)
  have kv : Up V1 V2 := by rw [hV]; (repeat (first | with_reducible exact Up.refl _ | with_reducible refine Up.alloc ?_ _ | with_reducible refine Up.drew ?_ | with_reducible refine Up.drewN ?_ _))
  have nbH : Blk V2 (V1.heap.size) 32 C := by rw [hV]; (repeat (first | with_reducible exact Blk.new' _ (by simp) _ _ | with_reducible exact Blk.new _ _ _ | with_reducible refine Blk.alloc ?_ _ | with_reducible refine Blk.drew ?_))
  have kv2 := kv
  clear hV
  have HBI_2 := Lib.hid (HBI_1.out.up kv)
  have HU_2 := Lib.hid (HU_1.out.trans kv)
  clear HBI_1 HU_1
  clear kv
  have HBH_2 := Lib.hid nbH
  clear nbH
  have y17 := kv2.cell j17
  have y18 := kv2.cell j18
  have y19 := kv2.cell j19
  have y20 := kv2.cell j20
  have y21 := kv2.cell j21
  have yl := HBI_2.out.lt
  clear j17 j18 j19 j20 j21 jl kv2 HRA
  go_wp2_with (fail)
  clear y17 y18 y19 y20 y21 yl
  refine calls_at (fun V3 hV => ?_)
  have kv : Up V2 V3 := by rw [hV]; (repeat (first | with_reducible exact Up.refl _ | with_reducible refine Up.alloc ?_ _ | with_reducible refine Up.drew ?_ | with_reducible refine Up.drewN ?_ _))
  have nbA : Blk V3 (V2.heap.size) 56 #[.int .i64 a.1, .int .u64 a.2.1, .bool a.2.2] := by rw [hV]; (repeat (first | with_reducible exact Blk.new' _ (by simp) _ _ | with_reducible exact Blk.new _ _ _ | with_reducible refine Blk.alloc ?_ _ | with_reducible refine Blk.drew ?_))
  clear hV
  have HBI_3 := Lib.hid (HBI_2.out.up kv)
  have HBH_3 := Lib.hid (HBH_2.out.up kv)
  have HU_3 := Lib.hid (HU_2.out.trans kv)
  clear HBI_2 HBH_2 HU_2
  clear kv
  have HBA_3 := Lib.hid nbA
  clear nbA
  refine (shown17 V3).mono ?_
  rintro e w4 ⟨rfl, k3⟩
  have HBI_4 := Lib.hid (HBI_3.out.up k3)
  have HBH_4 := Lib.hid (HBH_3.out.up k3)
  have HBA_4 := Lib.hid (HBA_3.out.up k3)
  have HU_4 := Lib.hid (HU_3.out.trans k3)
  clear HBI_3 HBH_3 HBA_3 HU_3
  clear k3
  go_wp2_with (with_reducible refine halt_at (o := ⟨_, Op.load 32 _, _, _, _, _⟩) ?_)
  unfold Halt
  refine heap_load (by rfl) _ rfl rfl HBH_4.out hs ?_
  go_wp2_with (fail)
  refine calls_at (fun V5 hV => ?_)
  have kv : Up w4 V5 := by rw [hV]; (repeat (first | with_reducible exact Up.refl _ | with_reducible refine Up.alloc ?_ _ | with_reducible refine Up.drew ?_ | with_reducible refine Up.drewN ?_ _))
  clear hV
  have HBI_5 := Lib.hid (HBI_4.out.up kv)
  have HBH_5 := Lib.hid (HBH_4.out.up kv)
  have HBA_5 := Lib.hid (HBA_4.out.up kv)
  have HU_5 := Lib.hid (HU_4.out.trans kv)
  clear HBI_4 HBH_4 HBA_4 HU_4
  clear kv
  refine (HFEW.out V5 HU_5.out).mono ?_
  rintro e w6 ⟨rfl, k5⟩
  have HBI_6 := Lib.hid (HBI_5.out.up k5)
  have HBH_6 := Lib.hid (HBH_5.out.up k5)
  have HBA_6 := Lib.hid (HBA_5.out.up k5)
  have HU_6 := Lib.hid (HU_5.out.trans k5)
  clear HBI_5 HBH_5 HBA_5 HU_5
  clear k5
  go_wp2_with (with_reducible refine halt_at (o := ⟨_, Op.load 32 _, _, _, _, _⟩) ?_)
  unfold Halt
  refine heap_load (by rfl) _ rfl rfl HBH_6.out hs ?_
  have ac := HBA_6.out.cell
  have al := HBA_6.out.lt
  have HQ := Lib.hid (HDO.out _ HU_6.out)
  go_wp2_with (fail)
  refine HQ.out.mono ?_
  rintro e wd ⟨K, rfl, hk, kd⟩
  clear ac al
  have HBI_7 := Lib.hid (HBI_6.out.up kd)
  have HBH_7 := Lib.hid (HBH_6.out.up kd)
  have HBA_7 := Lib.hid (HBA_6.out.up kd)
  have HU_7 := Lib.hid (HU_6.out.trans kd)
  clear HBI_6 HBH_6 HBA_6 HU_6
  have HPK_7 := Lib.hid hk
  have HPH_7 := Lib.hid (HP0.out _ HU_7.out)
  clear kd HQ hk HP0 HDO
  go_wp2_with (with_reducible refine halt_at (o := ⟨_, Op.store 32 _ _, _, _, _, _⟩) ?_)
  unfold Halt
  refine heap_new (C := K) (by rfl) _ _ rfl rfl rfl rfl (by first | rfl | simp) HPK_7.out.size rfl HPK_7.out.one ?_
  simp only [put_none]
  refine list_at (fun V8 hV => ?_)
  have kv : Up wd V8 := by rw [hV]; (repeat (first | with_reducible exact Up.refl _ | with_reducible refine Up.alloc ?_ _ | with_reducible refine Up.drew ?_ | with_reducible refine Up.drewN ?_ _))
  have nbK : Blk V8 (wd.heap.size) 32 K := by rw [hV]; (repeat (first | with_reducible exact Blk.new' _ (by simp) _ _ | with_reducible exact Blk.new _ _ _ | with_reducible refine Blk.alloc ?_ _ | with_reducible refine Blk.drew ?_))
  clear hV
  have HBI_8 := Lib.hid (HBI_7.out.up kv)
  have HBH_8 := Lib.hid (HBH_7.out.up kv)
  have HBA_8 := Lib.hid (HBA_7.out.up kv)
  have HPK_8 := Lib.hid (HPK_7.out.up kv)
  have HPH_8 := Lib.hid (HPH_7.out.up kv)
  have HU_8 := Lib.hid (HU_7.out.trans kv)
  clear HBI_7 HBH_7 HBA_7 HPK_7 HPH_7 HU_7
  clear kv
  have HBK_8 := Lib.hid nbK
  clear nbK
  obtain ⟨P0, Q0, cc0, d0, A0, ct0, us0, B0, co0, X0⟩ := HPH_8.out.x
  have c11 : V8.cell? ⟨(V1.heap.size), 11, none⟩ = some (.slice A0 h.th.length ct0) := by rw [HBH_8.out.cell, X0.e]; rfl
  have cl := HBH_8.out.lt
  clear X0
  have q1 : decide (th < 0) = true := decide_eq_true HNO.out
  go_wp2_with (with_reducible refine halt_at (o := ⟨_, Op.load 32 _, _, _, _, _⟩) ?_)
  unfold Halt
  refine heap_load (by rfl) _ rfl rfl HBK_8.out HPK_8.out.size ?_
  go_wp2_with (with_reducible refine halt_at (o := ⟨_, Op.load 32 _, _, _, _, _⟩) ?_)
  unfold Halt
  refine heap_load (by rfl) _ rfl rfl HBH_8.out hs ?_
  have HQ := Lib.hid (same_c HPK_8.out HPH_8.out)
  go_wp2_with (fail)
  refine HQ.out.mono ?_
  rintro e wz ⟨rfl, kz⟩
  clear c11 cl
  have HBI_9 := Lib.hid (HBI_8.out.up kz)
  have HBH_9 := Lib.hid (HBH_8.out.up kz)
  have HBA_9 := Lib.hid (HBA_8.out.up kz)
  have HBK_9 := Lib.hid (HBK_8.out.up kz)
  have HPK_9 := Lib.hid (HPK_8.out.up kz)
  have HPH_9 := Lib.hid (HPH_8.out.up kz)
  have HU_9 := Lib.hid (HU_8.out.trans kz)
  clear HBI_8 HBH_8 HBA_8 HBK_8 HPK_8 HPH_8 HU_8
  go_wp2
  go_ret
  exact ⟨rfl, (by (repeat (first | with_reducible exact HU_9.out | with_reducible refine Up.alloc ?_ _ | with_reducible refine Up.drew ?_ | with_reducible refine Up.drewN ?_ _)))⟩
set_option maxRecDepth 100000 in
set_option maxHeartbeats 16000000 in
theorem walk_big (C G : Array Value) (h : Hp) (th : Int) (a : An) (oth : Int) (w : World) (hs : C.size = 17) (hone : C.all (·.oneCell') = true) (hi : In22 C G th a oth) (HFEW : Hid (∀ W, Up w W → Calls Tryz.prog 10 #[.agg C] W fun e w' => e = .returned (.bool true) ∧ Up W w')) (hR : HpR w (.agg C) h) (hF : HpF h) (HNI : Hid (¬ (0 ≤ th ∧ th < h.th.length))) (hno : 0 ≤ th ∧ (h.th.length : Int) ≤ th) :
    Calls Tryz.prog 8 #[.agg G] w fun e w' => e = .returned (.bool true) ∧ Up w w' := by
  have HI := Lib.hid hi
  have HONE := Lib.hid hone
  have HP0 := Lib.hid (fun W (u : Up w W) => hR.up u)
  have HDO := Lib.hid (fun W (u : Up w W) => answer_c (hR.up u) hF a th)
  have HNO := Lib.hid hno
  clear hi hone hR hF hno
  rw [show answered h th a = h from by unfold answered; rw [if_neg HNI.out]] at HDO
  go_enter Tryz.func8, Tryz.ntmps8
  go_wp2_with (with_reducible refine halt_at (o := ⟨_, Op.load 32 _, _, _, _, _⟩) ?_)
  unfold Halt
  refine list_at (fun V1 hV => ?_)
  have kv : Up w V1 := by rw [hV]; (repeat (first | with_reducible exact Up.refl _ | with_reducible refine Up.alloc ?_ _ | with_reducible refine Up.drew ?_ | with_reducible refine Up.drewN ?_ _))
  have nbI : Blk V1 (w.heap.size) 69 G := by rw [hV]; (repeat (first | with_reducible exact Blk.new' _ (by simp) _ _ | with_reducible exact Blk.new _ _ _ | with_reducible refine Blk.alloc ?_ _ | with_reducible refine Blk.drew ?_))
  clear hV
  have HU_1 := Lib.hid (kv)
  clear kv
  have HBI_1 := Lib.hid nbI
  clear nbI
  have hra : V1.rangeAt (w.heap.size) 0 C.toList := fun i v q => by
    rw [Nat.zero_add, HBI_1.out.cell]
    exact HI.out.r i v q
  have HRA := Lib.hid hra
  clear hra
  have j17 : V1.cell? ⟨(w.heap.size), 17, none⟩ = some (.int .i64 th) := by rw [HBI_1.out.cell]; exact HI.out.t
  have j18 : V1.cell? ⟨(w.heap.size), 18, none⟩ = some (.int .i64 a.1) := by rw [HBI_1.out.cell]; exact HI.out.a0
  have j19 : V1.cell? ⟨(w.heap.size), 19, none⟩ = some (.int .u64 a.2.1) := by rw [HBI_1.out.cell]; exact HI.out.a1
  have j20 : V1.cell? ⟨(w.heap.size), 20, none⟩ = some (.bool a.2.2) := by rw [HBI_1.out.cell]; exact HI.out.a2
  have j21 : V1.cell? ⟨(w.heap.size), 21, none⟩ = some (.int .i64 oth) := by rw [HBI_1.out.cell]; exact HI.out.o
  have jl := HBI_1.out.lt
  refine heap_mid (by rfl) _ rfl rfl HRA.out hs ?_
  go_wp2_with (with_reducible refine halt_at (o := ⟨_, Op.store 32 _ _, _, _, _, _⟩) ?_)
  unfold Halt
  refine heap_new (C := C) (by rfl) _ _ rfl rfl rfl rfl (by first | rfl | simp) hs rfl HONE.out ?_
  simp only [put_none]
  refine list_at (fun V2 hV => ?_)
  have kv : Up V1 V2 := by rw [hV]; (repeat (first | with_reducible exact Up.refl _ | with_reducible refine Up.alloc ?_ _ | with_reducible refine Up.drew ?_ | with_reducible refine Up.drewN ?_ _))
  have nbH : Blk V2 (V1.heap.size) 32 C := by rw [hV]; (repeat (first | with_reducible exact Blk.new' _ (by simp) _ _ | with_reducible exact Blk.new _ _ _ | with_reducible refine Blk.alloc ?_ _ | with_reducible refine Blk.drew ?_))
  have kv2 := kv
  clear hV
  have HBI_2 := Lib.hid (HBI_1.out.up kv)
  have HU_2 := Lib.hid (HU_1.out.trans kv)
  clear HBI_1 HU_1
  clear kv
  have HBH_2 := Lib.hid nbH
  clear nbH
  have y17 := kv2.cell j17
  have y18 := kv2.cell j18
  have y19 := kv2.cell j19
  have y20 := kv2.cell j20
  have y21 := kv2.cell j21
  have yl := HBI_2.out.lt
  clear j17 j18 j19 j20 j21 jl kv2 HRA
  go_wp2_with (fail)
  clear y17 y18 y19 y20 y21 yl
  refine calls_at (fun V3 hV => ?_)
  have kv : Up V2 V3 := by rw [hV]; (repeat (first | with_reducible exact Up.refl _ | with_reducible refine Up.alloc ?_ _ | with_reducible refine Up.drew ?_ | with_reducible refine Up.drewN ?_ _))
  have nbA : Blk V3 (V2.heap.size) 56 #[.int .i64 a.1, .int .u64 a.2.1, .bool a.2.2] := by rw [hV]; (repeat (first | with_reducible exact Blk.new' _ (by simp) _ _ | with_reducible exact Blk.new _ _ _ | with_reducible refine Blk.alloc ?_ _ | with_reducible refine Blk.drew ?_))
  clear hV
  have HBI_3 := Lib.hid (HBI_2.out.up kv)
  have HBH_3 := Lib.hid (HBH_2.out.up kv)
  have HU_3 := Lib.hid (HU_2.out.trans kv)
  clear HBI_2 HBH_2 HU_2
  clear kv
  have HBA_3 := Lib.hid nbA
  clear nbA
  refine (shown17 V3).mono ?_
  rintro e w4 ⟨rfl, k3⟩
  have HBI_4 := Lib.hid (HBI_3.out.up k3)
  have HBH_4 := Lib.hid (HBH_3.out.up k3)
  have HBA_4 := Lib.hid (HBA_3.out.up k3)
  have HU_4 := Lib.hid (HU_3.out.trans k3)
  clear HBI_3 HBH_3 HBA_3 HU_3
  clear k3
  go_wp2_with (with_reducible refine halt_at (o := ⟨_, Op.load 32 _, _, _, _, _⟩) ?_)
  unfold Halt
  refine heap_load (by rfl) _ rfl rfl HBH_4.out hs ?_
  go_wp2_with (fail)
  refine calls_at (fun V5 hV => ?_)
  have kv : Up w4 V5 := by rw [hV]; (repeat (first | with_reducible exact Up.refl _ | with_reducible refine Up.alloc ?_ _ | with_reducible refine Up.drew ?_ | with_reducible refine Up.drewN ?_ _))
  clear hV
  have HBI_5 := Lib.hid (HBI_4.out.up kv)
  have HBH_5 := Lib.hid (HBH_4.out.up kv)
  have HBA_5 := Lib.hid (HBA_4.out.up kv)
  have HU_5 := Lib.hid (HU_4.out.trans kv)
  clear HBI_4 HBH_4 HBA_4 HU_4
  clear kv
  refine (HFEW.out V5 HU_5.out).mono ?_
  rintro e w6 ⟨rfl, k5⟩
  have HBI_6 := Lib.hid (HBI_5.out.up k5)
  have HBH_6 := Lib.hid (HBH_5.out.up k5)
  have HBA_6 := Lib.hid (HBA_5.out.up k5)
  have HU_6 := Lib.hid (HU_5.out.trans k5)
  clear HBI_5 HBH_5 HBA_5 HU_5
  clear k5
  go_wp2_with (with_reducible refine halt_at (o := ⟨_, Op.load 32 _, _, _, _, _⟩) ?_)
  unfold Halt
  refine heap_load (by rfl) _ rfl rfl HBH_6.out hs ?_
  have ac := HBA_6.out.cell
  have al := HBA_6.out.lt
  have HQ := Lib.hid (HDO.out _ HU_6.out)
  go_wp2_with (fail)
  refine HQ.out.mono ?_
  rintro e wd ⟨K, rfl, hk, kd⟩
  clear ac al
  have HBI_7 := Lib.hid (HBI_6.out.up kd)
  have HBH_7 := Lib.hid (HBH_6.out.up kd)
  have HBA_7 := Lib.hid (HBA_6.out.up kd)
  have HU_7 := Lib.hid (HU_6.out.trans kd)
  clear HBI_6 HBH_6 HBA_6 HU_6
  have HPK_7 := Lib.hid hk
  have HPH_7 := Lib.hid (HP0.out _ HU_7.out)
  clear kd HQ hk HP0 HDO
  go_wp2_with (with_reducible refine halt_at (o := ⟨_, Op.store 32 _ _, _, _, _, _⟩) ?_)
  unfold Halt
  refine heap_new (C := K) (by rfl) _ _ rfl rfl rfl rfl (by first | rfl | simp) HPK_7.out.size rfl HPK_7.out.one ?_
  simp only [put_none]
  refine list_at (fun V8 hV => ?_)
  have kv : Up wd V8 := by rw [hV]; (repeat (first | with_reducible exact Up.refl _ | with_reducible refine Up.alloc ?_ _ | with_reducible refine Up.drew ?_ | with_reducible refine Up.drewN ?_ _))
  have nbK : Blk V8 (wd.heap.size) 32 K := by rw [hV]; (repeat (first | with_reducible exact Blk.new' _ (by simp) _ _ | with_reducible exact Blk.new _ _ _ | with_reducible refine Blk.alloc ?_ _ | with_reducible refine Blk.drew ?_))
  clear hV
  have HBI_8 := Lib.hid (HBI_7.out.up kv)
  have HBH_8 := Lib.hid (HBH_7.out.up kv)
  have HBA_8 := Lib.hid (HBA_7.out.up kv)
  have HPK_8 := Lib.hid (HPK_7.out.up kv)
  have HPH_8 := Lib.hid (HPH_7.out.up kv)
  have HU_8 := Lib.hid (HU_7.out.trans kv)
  clear HBI_7 HBH_7 HBA_7 HPK_7 HPH_7 HU_7
  clear kv
  have HBK_8 := Lib.hid nbK
  clear nbK
  obtain ⟨P0, Q0, cc0, d0, A0, ct0, us0, B0, co0, X0⟩ := HPH_8.out.x
  have c11 : V8.cell? ⟨(V1.heap.size), 11, none⟩ = some (.slice A0 h.th.length ct0) := by rw [HBH_8.out.cell, X0.e]; rfl
  have cl := HBH_8.out.lt
  clear X0
  have q1 : decide (th < 0) = false := decide_eq_false (by have := HNO.out; omega)
  have q2 : decide ((h.th.length : Int) ≤ th) = true := decide_eq_true HNO.out.2
  go_wp2_with (with_reducible refine halt_at (o := ⟨_, Op.load 32 _, _, _, _, _⟩) ?_)
  unfold Halt
  refine heap_load (by rfl) _ rfl rfl HBK_8.out HPK_8.out.size ?_
  go_wp2_with (with_reducible refine halt_at (o := ⟨_, Op.load 32 _, _, _, _, _⟩) ?_)
  unfold Halt
  refine heap_load (by rfl) _ rfl rfl HBH_8.out hs ?_
  have HQ := Lib.hid (same_c HPK_8.out HPH_8.out)
  go_wp2_with (fail)
  refine HQ.out.mono ?_
  rintro e wz ⟨rfl, kz⟩
  clear c11 cl
  have HBI_9 := Lib.hid (HBI_8.out.up kz)
  have HBH_9 := Lib.hid (HBH_8.out.up kz)
  have HBA_9 := Lib.hid (HBA_8.out.up kz)
  have HBK_9 := Lib.hid (HBK_8.out.up kz)
  have HPK_9 := Lib.hid (HPK_8.out.up kz)
  have HPH_9 := Lib.hid (HPH_8.out.up kz)
  have HU_9 := Lib.hid (HU_8.out.trans kz)
  clear HBI_8 HBH_8 HBA_8 HBK_8 HPK_8 HPH_8 HU_8
  go_wp2
  go_ret
  exact ⟨rfl, (by (repeat (first | with_reducible exact HU_9.out | with_reducible refine Up.alloc ?_ _ | with_reducible refine Up.drew ?_ | with_reducible refine Up.drewN ?_ _)))⟩
set_option maxRecDepth 100000 in
set_option maxHeartbeats 16000000 in
theorem walk_in1neg (C G : Array Value) (h : Hp) (j : Nat) (t : Th) (a : An) (oth : Int) (w : World) (hs : C.size = 17) (hone : C.all (·.oneCell') = true) (hi : In22 C G (j : Int) a oth) (HFEW : Hid (∀ W, Up w W → Calls Tryz.prog 10 #[.agg C] W fun e w' => e = .returned (.bool true) ∧ Up W w')) (hR : HpR w (.agg C) h) (hF : HpF h) (ht : h.th[j]? = some t) (hj0 : j < h.th.length) (hlf : ∃ n, t.lf.length = n + 1) (hoc : oth < 0) :
    Calls Tryz.prog 8 #[.agg G] w fun e w' => e = .returned (.bool true) ∧ Up w w' := by
  have HI := Lib.hid hi
  have HONE := Lib.hid hone
  have HP0 := Lib.hid (fun W (u : Up w W) => hR.up u)
  have HDO := Lib.hid (fun W (u : Up w W) => answer_c (hR.up u) hF a (j : Int))
  have HTH := Lib.hid ht
  have HJ := Lib.hid hj0
  clear hi hone hR hF hj0
  have e0 : answered h (j : Int) a = ansH h j t a := by
    unfold answered
    rw [if_pos ⟨Int.natCast_nonneg _, by have := HJ.out; omega⟩, Int.toNat_natCast, ht]
  rw [e0] at HDO
  clear e0
  obtain ⟨k, ek⟩ : ∃ k, ansH h j t a = k := ⟨_, rfl⟩
  rw [ek] at HDO
  have HTK := Lib.hid (show k.th[j]? = some { t with dn := t.dn ++ [a], lf := t.lf.drop 1 } by rw [← ek]; show (h.th.set j _)[j]? = _; rw [List.getElem?_set_self HJ.out])
  have HLEN := Lib.hid (show k.th.length = h.th.length by rw [← ek]; show (h.th.set j _).length = _; rw [List.length_set])
  have HOD := Lib.hid (show k.od = h.od ++ [(j : Int)] by rw [← ek]; rfl)
  have HOTH := Lib.hid (show ∀ i, i ≠ j → k.th[i]? = h.th[i]? by rw [← ek]; intro i hi; show (h.th.set j _)[i]? = _; rw [List.getElem?_set_ne (fun q => hi q.symm)])
  clear ek ht
  obtain ⟨t', et'⟩ : ∃ t' : Th, { t with dn := t.dn ++ [a], lf := t.lf.drop 1 } = t' := ⟨_, rfl⟩
  rw [et'] at HTK
  have HDN := Lib.hid (show t'.dn = t.dn ++ [a] by rw [← et'])
  have HLF := Lib.hid (show t'.lf.length = t.lf.length - 1 by rw [← et']; show (t.lf.drop 1).length = _; rw [List.length_drop])
  clear et'
  go_enter Tryz.func8, Tryz.ntmps8
  go_wp2_with (with_reducible refine halt_at (o := ⟨_, Op.load 32 _, _, _, _, _⟩) ?_)
  unfold Halt
  refine list_at (fun V1 hV => ?_)
  have kv : Up w V1 := by rw [hV]; (repeat (first | with_reducible exact Up.refl _ | with_reducible refine Up.alloc ?_ _ | with_reducible refine Up.drew ?_ | with_reducible refine Up.drewN ?_ _))
  have nbI : Blk V1 (w.heap.size) 69 G := by rw [hV]; (repeat (first | with_reducible exact Blk.new' _ (by simp) _ _ | with_reducible exact Blk.new _ _ _ | with_reducible refine Blk.alloc ?_ _ | with_reducible refine Blk.drew ?_))
  clear hV
  have HU_1 := Lib.hid (kv)
  clear kv
  have HBI_1 := Lib.hid nbI
  clear nbI
  have hra : V1.rangeAt (w.heap.size) 0 C.toList := fun i v q => by
    rw [Nat.zero_add, HBI_1.out.cell]
    exact HI.out.r i v q
  have HRA := Lib.hid hra
  clear hra
  have j17 : V1.cell? ⟨(w.heap.size), 17, none⟩ = some (.int .i64 (j : Int)) := by rw [HBI_1.out.cell]; exact HI.out.t
  have j18 : V1.cell? ⟨(w.heap.size), 18, none⟩ = some (.int .i64 a.1) := by rw [HBI_1.out.cell]; exact HI.out.a0
  have j19 : V1.cell? ⟨(w.heap.size), 19, none⟩ = some (.int .u64 a.2.1) := by rw [HBI_1.out.cell]; exact HI.out.a1
  have j20 : V1.cell? ⟨(w.heap.size), 20, none⟩ = some (.bool a.2.2) := by rw [HBI_1.out.cell]; exact HI.out.a2
  have j21 : V1.cell? ⟨(w.heap.size), 21, none⟩ = some (.int .i64 oth) := by rw [HBI_1.out.cell]; exact HI.out.o
  have jl := HBI_1.out.lt
  refine heap_mid (by rfl) _ rfl rfl HRA.out hs ?_
  go_wp2_with (with_reducible refine halt_at (o := ⟨_, Op.store 32 _ _, _, _, _, _⟩) ?_)
  unfold Halt
  refine heap_new (C := C) (by rfl) _ _ rfl rfl rfl rfl (by first | rfl | simp) hs rfl HONE.out ?_
  simp only [put_none]
  refine list_at (fun V2 hV => ?_)
  have kv : Up V1 V2 := by rw [hV]; (repeat (first | with_reducible exact Up.refl _ | with_reducible refine Up.alloc ?_ _ | with_reducible refine Up.drew ?_ | with_reducible refine Up.drewN ?_ _))
  have nbH : Blk V2 (V1.heap.size) 32 C := by rw [hV]; (repeat (first | with_reducible exact Blk.new' _ (by simp) _ _ | with_reducible exact Blk.new _ _ _ | with_reducible refine Blk.alloc ?_ _ | with_reducible refine Blk.drew ?_))
  have kv2 := kv
  clear hV
  have HBI_2 := Lib.hid (HBI_1.out.up kv)
  have HU_2 := Lib.hid (HU_1.out.trans kv)
  clear HBI_1 HU_1
  clear kv
  have HBH_2 := Lib.hid nbH
  clear nbH
  have y17 := kv2.cell j17
  have y18 := kv2.cell j18
  have y19 := kv2.cell j19
  have y20 := kv2.cell j20
  have y21 := kv2.cell j21
  have yl := HBI_2.out.lt
  clear j17 j18 j19 j20 j21 jl kv2 HRA
  go_wp2_with (fail)
  clear y17 y18 y19 y20 y21 yl
  refine calls_at (fun V3 hV => ?_)
  have kv : Up V2 V3 := by rw [hV]; (repeat (first | with_reducible exact Up.refl _ | with_reducible refine Up.alloc ?_ _ | with_reducible refine Up.drew ?_ | with_reducible refine Up.drewN ?_ _))
  have nbA : Blk V3 (V2.heap.size) 56 #[.int .i64 a.1, .int .u64 a.2.1, .bool a.2.2] := by rw [hV]; (repeat (first | with_reducible exact Blk.new' _ (by simp) _ _ | with_reducible exact Blk.new _ _ _ | with_reducible refine Blk.alloc ?_ _ | with_reducible refine Blk.drew ?_))
  clear hV
  have HBI_3 := Lib.hid (HBI_2.out.up kv)
  have HBH_3 := Lib.hid (HBH_2.out.up kv)
  have HU_3 := Lib.hid (HU_2.out.trans kv)
  clear HBI_2 HBH_2 HU_2
  clear kv
  have HBA_3 := Lib.hid nbA
  clear nbA
  refine (shown17 V3).mono ?_
  rintro e w4 ⟨rfl, k3⟩
  have HBI_4 := Lib.hid (HBI_3.out.up k3)
  have HBH_4 := Lib.hid (HBH_3.out.up k3)
  have HBA_4 := Lib.hid (HBA_3.out.up k3)
  have HU_4 := Lib.hid (HU_3.out.trans k3)
  clear HBI_3 HBH_3 HBA_3 HU_3
  clear k3
  go_wp2_with (with_reducible refine halt_at (o := ⟨_, Op.load 32 _, _, _, _, _⟩) ?_)
  unfold Halt
  refine heap_load (by rfl) _ rfl rfl HBH_4.out hs ?_
  go_wp2_with (fail)
  refine calls_at (fun V5 hV => ?_)
  have kv : Up w4 V5 := by rw [hV]; (repeat (first | with_reducible exact Up.refl _ | with_reducible refine Up.alloc ?_ _ | with_reducible refine Up.drew ?_ | with_reducible refine Up.drewN ?_ _))
  clear hV
  have HBI_5 := Lib.hid (HBI_4.out.up kv)
  have HBH_5 := Lib.hid (HBH_4.out.up kv)
  have HBA_5 := Lib.hid (HBA_4.out.up kv)
  have HU_5 := Lib.hid (HU_4.out.trans kv)
  clear HBI_4 HBH_4 HBA_4 HU_4
  clear kv
  refine (HFEW.out V5 HU_5.out).mono ?_
  rintro e w6 ⟨rfl, k5⟩
  have HBI_6 := Lib.hid (HBI_5.out.up k5)
  have HBH_6 := Lib.hid (HBH_5.out.up k5)
  have HBA_6 := Lib.hid (HBA_5.out.up k5)
  have HU_6 := Lib.hid (HU_5.out.trans k5)
  clear HBI_5 HBH_5 HBA_5 HU_5
  clear k5
  go_wp2_with (with_reducible refine halt_at (o := ⟨_, Op.load 32 _, _, _, _, _⟩) ?_)
  unfold Halt
  refine heap_load (by rfl) _ rfl rfl HBH_6.out hs ?_
  have ac := HBA_6.out.cell
  have al := HBA_6.out.lt
  have HQ := Lib.hid (HDO.out _ HU_6.out)
  go_wp2_with (fail)
  refine HQ.out.mono ?_
  rintro e wd ⟨K, rfl, hk, kd⟩
  clear ac al
  have HBI_7 := Lib.hid (HBI_6.out.up kd)
  have HBH_7 := Lib.hid (HBH_6.out.up kd)
  have HBA_7 := Lib.hid (HBA_6.out.up kd)
  have HU_7 := Lib.hid (HU_6.out.trans kd)
  clear HBI_6 HBH_6 HBA_6 HU_6
  have HPK_7 := Lib.hid hk
  have HPH_7 := Lib.hid (HP0.out _ HU_7.out)
  clear kd HQ hk HP0 HDO
  go_wp2_with (with_reducible refine halt_at (o := ⟨_, Op.store 32 _ _, _, _, _, _⟩) ?_)
  unfold Halt
  refine heap_new (C := K) (by rfl) _ _ rfl rfl rfl rfl (by first | rfl | simp) HPK_7.out.size rfl HPK_7.out.one ?_
  simp only [put_none]
  refine list_at (fun V8 hV => ?_)
  have kv : Up wd V8 := by rw [hV]; (repeat (first | with_reducible exact Up.refl _ | with_reducible refine Up.alloc ?_ _ | with_reducible refine Up.drew ?_ | with_reducible refine Up.drewN ?_ _))
  have nbK : Blk V8 (wd.heap.size) 32 K := by rw [hV]; (repeat (first | with_reducible exact Blk.new' _ (by simp) _ _ | with_reducible exact Blk.new _ _ _ | with_reducible refine Blk.alloc ?_ _ | with_reducible refine Blk.drew ?_))
  clear hV
  have HBI_8 := Lib.hid (HBI_7.out.up kv)
  have HBH_8 := Lib.hid (HBH_7.out.up kv)
  have HBA_8 := Lib.hid (HBA_7.out.up kv)
  have HPK_8 := Lib.hid (HPK_7.out.up kv)
  have HPH_8 := Lib.hid (HPH_7.out.up kv)
  have HU_8 := Lib.hid (HU_7.out.trans kv)
  clear HBI_7 HBH_7 HBA_7 HPK_7 HPH_7 HU_7
  clear kv
  have HBK_8 := Lib.hid nbK
  clear nbK
  obtain ⟨Ph, Qh, ch, dh, Ah, cth, ush, Bh, coh, Xh⟩ := HPH_8.out.x
  obtain ⟨uh, euh, Rh⟩ := Xh.t.at_ (j := j) (t := t) HTH.out
  have roh := Xh.r
  have ooh := Xh.o
  have xeh := Xh.e
  obtain ⟨Sh0, sh0, qh0⟩ := Rh.st.slice
  obtain ⟨Sh1, sh1, qh1⟩ := Rh.lg.slice
  obtain ⟨Sh2, sh2, qh2⟩ := Rh.lf.slice
  obtain ⟨Sh3, sh3, qh3⟩ := Rh.pd.slice
  obtain ⟨Sh4, sh4, qh4⟩ := Rh.dn.slice
  have mh1 := Rh.lg.max
  have mh2 := Rh.lf.max
  have mh3 := Rh.pd.max
  have mh4 := Rh.dn.max
  have mh5 := ooh.max
  have mh6 := roh.max
  unfold maxLen at mh1 mh2 mh3 mh4 mh5 mh6
  rw [show ush.length = h.th.length from Xh.t.1] at mh6
  have gwh := Rh.wt
  have gah := Rh.ba
  have gbh := Rh.be
  have HRTh := Lib.hid Rh
  clear Rh
  obtain ⟨usth, ubah, ubeh, ulgh, ulfh, updh, uwth, udnh⟩ := uh
  simp only at qh0 qh1 qh2 qh3 qh4 gwh gah gbh
  subst qh0 qh1 qh2 qh3 qh4
  obtain ⟨ph, rfl, hph, k0h, k1h⟩ := rc_elem (k := 8) roh (fun _ => rfl) (by decide) euh
  have ah0 : V8.cell? (ph.add (j * 8)) = some (.slice Sh0 t.st.length sh0) := k0h
  have ah1 := k1h 0 _ rfl
  have ah2 := k1h 1 _ rfl
  have ah3 := k1h 2 _ rfl
  have ah4 := k1h 3 _ rfl
  have ah5 := k1h 4 _ rfl
  have ah6 := k1h 5 _ rfl
  have ah7 := k1h 6 _ rfl
  simp only [Nat.zero_add, Nat.reduceAdd] at ah1 ah2 ah3 ah4 ah5 ah6 ah7
  have bh11 : V8.cell? ⟨(V1.heap.size), 11, none⟩ = some (.slice (some ph) h.th.length cth) := by rw [HBH_8.out.cell, xeh]; rfl
  have bh15 : V8.cell? ⟨(V1.heap.size), 15, none⟩ = some (.slice Bh h.od.length coh) := by rw [HBH_8.out.cell, xeh]; rfl
  have lh := HBH_8.out.lt
  have lph : (ph.add (j * 8)).block < V8.heap.size := by rw [block_of_add]; exact hph
  clear k0h k1h euh Xh roh xeh
  obtain ⟨Pk, Qk, ck, dk, Ak, ctk, usk, Bk, cok, Xk⟩ := HPK_8.out.x
  obtain ⟨uk, euk, Rk⟩ := Xk.t.at_ (j := j) (t := t') HTK.out
  have rok := Xk.r
  have ook := Xk.o
  have xek := Xk.e
  obtain ⟨Sk0, sk0, qk0⟩ := Rk.st.slice
  obtain ⟨Sk1, sk1, qk1⟩ := Rk.lg.slice
  obtain ⟨Sk2, sk2, qk2⟩ := Rk.lf.slice
  obtain ⟨Sk3, sk3, qk3⟩ := Rk.pd.slice
  obtain ⟨Sk4, sk4, qk4⟩ := Rk.dn.slice
  have mk1 := Rk.lg.max
  have mk2 := Rk.lf.max
  have mk3 := Rk.pd.max
  have mk4 := Rk.dn.max
  have mk5 := ook.max
  have mk6 := rok.max
  unfold maxLen at mk1 mk2 mk3 mk4 mk5 mk6
  rw [show usk.length = k.th.length from Xk.t.1] at mk6
  have gwk := Rk.wt
  have gak := Rk.ba
  have gbk := Rk.be
  have HRTk := Lib.hid Rk
  clear Rk
  obtain ⟨ustk, ubak, ubek, ulgk, ulfk, updk, uwtk, udnk⟩ := uk
  simp only at qk0 qk1 qk2 qk3 qk4 gwk gak gbk
  subst qk0 qk1 qk2 qk3 qk4
  obtain ⟨pk, rfl, hpk, k0k, k1k⟩ := rc_elem (k := 8) rok (fun _ => rfl) (by decide) euk
  have ak0 : V8.cell? (pk.add (j * 8)) = some (.slice Sk0 t'.st.length sk0) := k0k
  have ak1 := k1k 0 _ rfl
  have ak2 := k1k 1 _ rfl
  have ak3 := k1k 2 _ rfl
  have ak4 := k1k 3 _ rfl
  have ak5 := k1k 4 _ rfl
  have ak6 := k1k 5 _ rfl
  have ak7 := k1k 6 _ rfl
  simp only [Nat.zero_add, Nat.reduceAdd] at ak1 ak2 ak3 ak4 ak5 ak6 ak7
  have bk11 : V8.cell? ⟨(wd.heap.size), 11, none⟩ = some (.slice (some pk) k.th.length ctk) := by rw [HBK_8.out.cell, xek]; rfl
  have bk15 : V8.cell? ⟨(wd.heap.size), 15, none⟩ = some (.slice Bk k.od.length cok) := by rw [HBK_8.out.cell, xek]; rfl
  have lk := HBK_8.out.lt
  have lpk : (pk.add (j * 8)).block < V8.heap.size := by rw [block_of_add]; exact hpk
  clear k0k k1k euk Xk rok xek
  rw [HLEN.out] at bk11
  obtain ⟨na, ena⟩ : ∃ n, t.dn.length = n := ⟨_, rfl⟩
  obtain ⟨no, eno⟩ : ∃ n, h.od.length = n := ⟨_, rfl⟩
  obtain ⟨nt, ent⟩ : ∃ n, h.th.length = n := ⟨_, rfl⟩
  obtain ⟨m, em⟩ : ∃ n, t.lf.length = n + 1 := hlf
  have f1 : t'.dn.length = na + 1 := by rw [HDN.out, List.length_append, ena]; rfl
  have f2 : t'.lf.length = m := by rw [HLF.out, em]; rfl
  have f4 : k.od.length = no + 1 := by rw [HOD.out, List.length_append, eno]; rfl
  rw [ena] at ah7
  rw [em] at ah4
  rw [eno] at bh15
  rw [ent] at bh11 bk11
  rw [f1] at ak7
  rw [f2] at ak4
  rw [f4] at bk15
  have hj : j < nt := by rw [← ent]; exact HJ.out
  have n5 : nt ≤ 9223372036854775807 := by rw [ent] at mh6; omega
  have ook2 := ook
  rw [f4, HOD.out] at ook2
  have hmx := mk5
  rw [f4] at hmx
  have n1 : no + 1 ≤ 9223372036854775807 := by omega
  have n2 : na + 1 ≤ 9223372036854775807 := by rw [f1] at mk4; omega
  have n3 : m + 1 ≤ 9223372036854775807 := by rw [em] at mh2; omega
  obtain ⟨po, ep, hpo, ko⟩ := Rc.at_ (k := 1) (j := no) (x := (j : Int)) ook2 (fun _ => rfl) (by decide) (by rw [← eno]; simp)
  have o0 := ko 0 _ rfl
  rw [Nat.mul_one, Nat.add_zero] at o0
  subst ep
  have lpo : (po.add no).block < V8.heap.size := by rw [block_of_add]; exact hpo
  have dnk : Rc anc V8 (.slice Sk4 (na + 1) sk4) (t.dn ++ [a]) := by have q := HRTk.out.dn; rw [← HDN.out, ← f1]; exact q
  obtain ⟨pd, epd, hpd, pd0, pd1⟩ := rc_elem (k := 3) (j := na) (x := a) dnk (fun _ => rfl) (by decide) (by rw [← ena]; simp)
  have d0 : V8.cell? (pd.add (na * 3)) = some (.int .i64 a.1) := pd0
  have d1 := pd1 0 _ rfl
  have d2 := pd1 1 _ rfl
  simp only [Nat.zero_add, Nat.reduceAdd] at d1 d2
  have dl : (pd.add (na * 3)).block < V8.heap.size := by rw [block_of_add]; exact hpd
  subst epd
  have hNE := ne_ans a.1 a.2.1 a.2.2
  have ac := HBA_8.out.cell
  have al := HBA_8.out.lt
  clear eno ena ent em f1 f2 f4 mh1 mh2 mh3 mh4 mh5 mh6 mk1 mk2 mk3 mk4 mk5 mk6 gwh gah gbh gwk gak gbk hpk hph ooh ook ook2 hmx ko hpo pd0 pd1 dnk hpd
  generalize t.st.length = z1 at *
  generalize t'.st.length = z2 at *
  generalize t.lg.length = z4 at *
  generalize t'.lg.length = z5 at *
  generalize t.pd.length = z6 at *
  generalize t'.pd.length = z7 at *
  have q1 : decide (oth < 0) = true := decide_eq_true hoc
  clear hoc
  go_upto_region 18 with fail
  go_quiet (fail)
  go_wp2
  go_ret
  exact ⟨rfl, (by (repeat (first | with_reducible exact HU_8.out | with_reducible refine Up.alloc ?_ _ | with_reducible refine Up.drew ?_ | with_reducible refine Up.drewN ?_ _)))⟩
set_option maxRecDepth 100000 in
set_option maxHeartbeats 16000000 in
theorem walk_in1big (C G : Array Value) (h : Hp) (j : Nat) (t : Th) (a : An) (oth : Int) (w : World) (hs : C.size = 17) (hone : C.all (·.oneCell') = true) (hi : In22 C G (j : Int) a oth) (HFEW : Hid (∀ W, Up w W → Calls Tryz.prog 10 #[.agg C] W fun e w' => e = .returned (.bool true) ∧ Up W w')) (hR : HpR w (.agg C) h) (hF : HpF h) (ht : h.th[j]? = some t) (hj0 : j < h.th.length) (hlf : ∃ n, t.lf.length = n + 1) (hoc : 0 ≤ oth ∧ (h.th.length : Int) ≤ oth) :
    Calls Tryz.prog 8 #[.agg G] w fun e w' => e = .returned (.bool true) ∧ Up w w' := by
  have HI := Lib.hid hi
  have HONE := Lib.hid hone
  have HP0 := Lib.hid (fun W (u : Up w W) => hR.up u)
  have HDO := Lib.hid (fun W (u : Up w W) => answer_c (hR.up u) hF a (j : Int))
  have HTH := Lib.hid ht
  have HJ := Lib.hid hj0
  clear hi hone hR hF hj0
  have e0 : answered h (j : Int) a = ansH h j t a := by
    unfold answered
    rw [if_pos ⟨Int.natCast_nonneg _, by have := HJ.out; omega⟩, Int.toNat_natCast, ht]
  rw [e0] at HDO
  clear e0
  obtain ⟨k, ek⟩ : ∃ k, ansH h j t a = k := ⟨_, rfl⟩
  rw [ek] at HDO
  have HTK := Lib.hid (show k.th[j]? = some { t with dn := t.dn ++ [a], lf := t.lf.drop 1 } by rw [← ek]; show (h.th.set j _)[j]? = _; rw [List.getElem?_set_self HJ.out])
  have HLEN := Lib.hid (show k.th.length = h.th.length by rw [← ek]; show (h.th.set j _).length = _; rw [List.length_set])
  have HOD := Lib.hid (show k.od = h.od ++ [(j : Int)] by rw [← ek]; rfl)
  have HOTH := Lib.hid (show ∀ i, i ≠ j → k.th[i]? = h.th[i]? by rw [← ek]; intro i hi; show (h.th.set j _)[i]? = _; rw [List.getElem?_set_ne (fun q => hi q.symm)])
  clear ek ht
  obtain ⟨t', et'⟩ : ∃ t' : Th, { t with dn := t.dn ++ [a], lf := t.lf.drop 1 } = t' := ⟨_, rfl⟩
  rw [et'] at HTK
  have HDN := Lib.hid (show t'.dn = t.dn ++ [a] by rw [← et'])
  have HLF := Lib.hid (show t'.lf.length = t.lf.length - 1 by rw [← et']; show (t.lf.drop 1).length = _; rw [List.length_drop])
  clear et'
  go_enter Tryz.func8, Tryz.ntmps8
  go_wp2_with (with_reducible refine halt_at (o := ⟨_, Op.load 32 _, _, _, _, _⟩) ?_)
  unfold Halt
  refine list_at (fun V1 hV => ?_)
  have kv : Up w V1 := by rw [hV]; (repeat (first | with_reducible exact Up.refl _ | with_reducible refine Up.alloc ?_ _ | with_reducible refine Up.drew ?_ | with_reducible refine Up.drewN ?_ _))
  have nbI : Blk V1 (w.heap.size) 69 G := by rw [hV]; (repeat (first | with_reducible exact Blk.new' _ (by simp) _ _ | with_reducible exact Blk.new _ _ _ | with_reducible refine Blk.alloc ?_ _ | with_reducible refine Blk.drew ?_))
  clear hV
  have HU_1 := Lib.hid (kv)
  clear kv
  have HBI_1 := Lib.hid nbI
  clear nbI
  have hra : V1.rangeAt (w.heap.size) 0 C.toList := fun i v q => by
    rw [Nat.zero_add, HBI_1.out.cell]
    exact HI.out.r i v q
  have HRA := Lib.hid hra
  clear hra
  have j17 : V1.cell? ⟨(w.heap.size), 17, none⟩ = some (.int .i64 (j : Int)) := by rw [HBI_1.out.cell]; exact HI.out.t
  have j18 : V1.cell? ⟨(w.heap.size), 18, none⟩ = some (.int .i64 a.1) := by rw [HBI_1.out.cell]; exact HI.out.a0
  have j19 : V1.cell? ⟨(w.heap.size), 19, none⟩ = some (.int .u64 a.2.1) := by rw [HBI_1.out.cell]; exact HI.out.a1
  have j20 : V1.cell? ⟨(w.heap.size), 20, none⟩ = some (.bool a.2.2) := by rw [HBI_1.out.cell]; exact HI.out.a2
  have j21 : V1.cell? ⟨(w.heap.size), 21, none⟩ = some (.int .i64 oth) := by rw [HBI_1.out.cell]; exact HI.out.o
  have jl := HBI_1.out.lt
  refine heap_mid (by rfl) _ rfl rfl HRA.out hs ?_
  go_wp2_with (with_reducible refine halt_at (o := ⟨_, Op.store 32 _ _, _, _, _, _⟩) ?_)
  unfold Halt
  refine heap_new (C := C) (by rfl) _ _ rfl rfl rfl rfl (by first | rfl | simp) hs rfl HONE.out ?_
  simp only [put_none]
  refine list_at (fun V2 hV => ?_)
  have kv : Up V1 V2 := by rw [hV]; (repeat (first | with_reducible exact Up.refl _ | with_reducible refine Up.alloc ?_ _ | with_reducible refine Up.drew ?_ | with_reducible refine Up.drewN ?_ _))
  have nbH : Blk V2 (V1.heap.size) 32 C := by rw [hV]; (repeat (first | with_reducible exact Blk.new' _ (by simp) _ _ | with_reducible exact Blk.new _ _ _ | with_reducible refine Blk.alloc ?_ _ | with_reducible refine Blk.drew ?_))
  have kv2 := kv
  clear hV
  have HBI_2 := Lib.hid (HBI_1.out.up kv)
  have HU_2 := Lib.hid (HU_1.out.trans kv)
  clear HBI_1 HU_1
  clear kv
  have HBH_2 := Lib.hid nbH
  clear nbH
  have y17 := kv2.cell j17
  have y18 := kv2.cell j18
  have y19 := kv2.cell j19
  have y20 := kv2.cell j20
  have y21 := kv2.cell j21
  have yl := HBI_2.out.lt
  clear j17 j18 j19 j20 j21 jl kv2 HRA
  go_wp2_with (fail)
  clear y17 y18 y19 y20 y21 yl
  refine calls_at (fun V3 hV => ?_)
  have kv : Up V2 V3 := by rw [hV]; (repeat (first | with_reducible exact Up.refl _ | with_reducible refine Up.alloc ?_ _ | with_reducible refine Up.drew ?_ | with_reducible refine Up.drewN ?_ _))
  have nbA : Blk V3 (V2.heap.size) 56 #[.int .i64 a.1, .int .u64 a.2.1, .bool a.2.2] := by rw [hV]; (repeat (first | with_reducible exact Blk.new' _ (by simp) _ _ | with_reducible exact Blk.new _ _ _ | with_reducible refine Blk.alloc ?_ _ | with_reducible refine Blk.drew ?_))
  clear hV
  have HBI_3 := Lib.hid (HBI_2.out.up kv)
  have HBH_3 := Lib.hid (HBH_2.out.up kv)
  have HU_3 := Lib.hid (HU_2.out.trans kv)
  clear HBI_2 HBH_2 HU_2
  clear kv
  have HBA_3 := Lib.hid nbA
  clear nbA
  refine (shown17 V3).mono ?_
  rintro e w4 ⟨rfl, k3⟩
  have HBI_4 := Lib.hid (HBI_3.out.up k3)
  have HBH_4 := Lib.hid (HBH_3.out.up k3)
  have HBA_4 := Lib.hid (HBA_3.out.up k3)
  have HU_4 := Lib.hid (HU_3.out.trans k3)
  clear HBI_3 HBH_3 HBA_3 HU_3
  clear k3
  go_wp2_with (with_reducible refine halt_at (o := ⟨_, Op.load 32 _, _, _, _, _⟩) ?_)
  unfold Halt
  refine heap_load (by rfl) _ rfl rfl HBH_4.out hs ?_
  go_wp2_with (fail)
  refine calls_at (fun V5 hV => ?_)
  have kv : Up w4 V5 := by rw [hV]; (repeat (first | with_reducible exact Up.refl _ | with_reducible refine Up.alloc ?_ _ | with_reducible refine Up.drew ?_ | with_reducible refine Up.drewN ?_ _))
  clear hV
  have HBI_5 := Lib.hid (HBI_4.out.up kv)
  have HBH_5 := Lib.hid (HBH_4.out.up kv)
  have HBA_5 := Lib.hid (HBA_4.out.up kv)
  have HU_5 := Lib.hid (HU_4.out.trans kv)
  clear HBI_4 HBH_4 HBA_4 HU_4
  clear kv
  refine (HFEW.out V5 HU_5.out).mono ?_
  rintro e w6 ⟨rfl, k5⟩
  have HBI_6 := Lib.hid (HBI_5.out.up k5)
  have HBH_6 := Lib.hid (HBH_5.out.up k5)
  have HBA_6 := Lib.hid (HBA_5.out.up k5)
  have HU_6 := Lib.hid (HU_5.out.trans k5)
  clear HBI_5 HBH_5 HBA_5 HU_5
  clear k5
  go_wp2_with (with_reducible refine halt_at (o := ⟨_, Op.load 32 _, _, _, _, _⟩) ?_)
  unfold Halt
  refine heap_load (by rfl) _ rfl rfl HBH_6.out hs ?_
  have ac := HBA_6.out.cell
  have al := HBA_6.out.lt
  have HQ := Lib.hid (HDO.out _ HU_6.out)
  go_wp2_with (fail)
  refine HQ.out.mono ?_
  rintro e wd ⟨K, rfl, hk, kd⟩
  clear ac al
  have HBI_7 := Lib.hid (HBI_6.out.up kd)
  have HBH_7 := Lib.hid (HBH_6.out.up kd)
  have HBA_7 := Lib.hid (HBA_6.out.up kd)
  have HU_7 := Lib.hid (HU_6.out.trans kd)
  clear HBI_6 HBH_6 HBA_6 HU_6
  have HPK_7 := Lib.hid hk
  have HPH_7 := Lib.hid (HP0.out _ HU_7.out)
  clear kd HQ hk HP0 HDO
  go_wp2_with (with_reducible refine halt_at (o := ⟨_, Op.store 32 _ _, _, _, _, _⟩) ?_)
  unfold Halt
  refine heap_new (C := K) (by rfl) _ _ rfl rfl rfl rfl (by first | rfl | simp) HPK_7.out.size rfl HPK_7.out.one ?_
  simp only [put_none]
  refine list_at (fun V8 hV => ?_)
  have kv : Up wd V8 := by rw [hV]; (repeat (first | with_reducible exact Up.refl _ | with_reducible refine Up.alloc ?_ _ | with_reducible refine Up.drew ?_ | with_reducible refine Up.drewN ?_ _))
  have nbK : Blk V8 (wd.heap.size) 32 K := by rw [hV]; (repeat (first | with_reducible exact Blk.new' _ (by simp) _ _ | with_reducible exact Blk.new _ _ _ | with_reducible refine Blk.alloc ?_ _ | with_reducible refine Blk.drew ?_))
  clear hV
  have HBI_8 := Lib.hid (HBI_7.out.up kv)
  have HBH_8 := Lib.hid (HBH_7.out.up kv)
  have HBA_8 := Lib.hid (HBA_7.out.up kv)
  have HPK_8 := Lib.hid (HPK_7.out.up kv)
  have HPH_8 := Lib.hid (HPH_7.out.up kv)
  have HU_8 := Lib.hid (HU_7.out.trans kv)
  clear HBI_7 HBH_7 HBA_7 HPK_7 HPH_7 HU_7
  clear kv
  have HBK_8 := Lib.hid nbK
  clear nbK
  obtain ⟨Ph, Qh, ch, dh, Ah, cth, ush, Bh, coh, Xh⟩ := HPH_8.out.x
  obtain ⟨uh, euh, Rh⟩ := Xh.t.at_ (j := j) (t := t) HTH.out
  have roh := Xh.r
  have ooh := Xh.o
  have xeh := Xh.e
  obtain ⟨Sh0, sh0, qh0⟩ := Rh.st.slice
  obtain ⟨Sh1, sh1, qh1⟩ := Rh.lg.slice
  obtain ⟨Sh2, sh2, qh2⟩ := Rh.lf.slice
  obtain ⟨Sh3, sh3, qh3⟩ := Rh.pd.slice
  obtain ⟨Sh4, sh4, qh4⟩ := Rh.dn.slice
  have mh1 := Rh.lg.max
  have mh2 := Rh.lf.max
  have mh3 := Rh.pd.max
  have mh4 := Rh.dn.max
  have mh5 := ooh.max
  have mh6 := roh.max
  unfold maxLen at mh1 mh2 mh3 mh4 mh5 mh6
  rw [show ush.length = h.th.length from Xh.t.1] at mh6
  have gwh := Rh.wt
  have gah := Rh.ba
  have gbh := Rh.be
  have HRTh := Lib.hid Rh
  clear Rh
  obtain ⟨usth, ubah, ubeh, ulgh, ulfh, updh, uwth, udnh⟩ := uh
  simp only at qh0 qh1 qh2 qh3 qh4 gwh gah gbh
  subst qh0 qh1 qh2 qh3 qh4
  obtain ⟨ph, rfl, hph, k0h, k1h⟩ := rc_elem (k := 8) roh (fun _ => rfl) (by decide) euh
  have ah0 : V8.cell? (ph.add (j * 8)) = some (.slice Sh0 t.st.length sh0) := k0h
  have ah1 := k1h 0 _ rfl
  have ah2 := k1h 1 _ rfl
  have ah3 := k1h 2 _ rfl
  have ah4 := k1h 3 _ rfl
  have ah5 := k1h 4 _ rfl
  have ah6 := k1h 5 _ rfl
  have ah7 := k1h 6 _ rfl
  simp only [Nat.zero_add, Nat.reduceAdd] at ah1 ah2 ah3 ah4 ah5 ah6 ah7
  have bh11 : V8.cell? ⟨(V1.heap.size), 11, none⟩ = some (.slice (some ph) h.th.length cth) := by rw [HBH_8.out.cell, xeh]; rfl
  have bh15 : V8.cell? ⟨(V1.heap.size), 15, none⟩ = some (.slice Bh h.od.length coh) := by rw [HBH_8.out.cell, xeh]; rfl
  have lh := HBH_8.out.lt
  have lph : (ph.add (j * 8)).block < V8.heap.size := by rw [block_of_add]; exact hph
  clear k0h k1h euh Xh roh xeh
  obtain ⟨Pk, Qk, ck, dk, Ak, ctk, usk, Bk, cok, Xk⟩ := HPK_8.out.x
  obtain ⟨uk, euk, Rk⟩ := Xk.t.at_ (j := j) (t := t') HTK.out
  have rok := Xk.r
  have ook := Xk.o
  have xek := Xk.e
  obtain ⟨Sk0, sk0, qk0⟩ := Rk.st.slice
  obtain ⟨Sk1, sk1, qk1⟩ := Rk.lg.slice
  obtain ⟨Sk2, sk2, qk2⟩ := Rk.lf.slice
  obtain ⟨Sk3, sk3, qk3⟩ := Rk.pd.slice
  obtain ⟨Sk4, sk4, qk4⟩ := Rk.dn.slice
  have mk1 := Rk.lg.max
  have mk2 := Rk.lf.max
  have mk3 := Rk.pd.max
  have mk4 := Rk.dn.max
  have mk5 := ook.max
  have mk6 := rok.max
  unfold maxLen at mk1 mk2 mk3 mk4 mk5 mk6
  rw [show usk.length = k.th.length from Xk.t.1] at mk6
  have gwk := Rk.wt
  have gak := Rk.ba
  have gbk := Rk.be
  have HRTk := Lib.hid Rk
  clear Rk
  obtain ⟨ustk, ubak, ubek, ulgk, ulfk, updk, uwtk, udnk⟩ := uk
  simp only at qk0 qk1 qk2 qk3 qk4 gwk gak gbk
  subst qk0 qk1 qk2 qk3 qk4
  obtain ⟨pk, rfl, hpk, k0k, k1k⟩ := rc_elem (k := 8) rok (fun _ => rfl) (by decide) euk
  have ak0 : V8.cell? (pk.add (j * 8)) = some (.slice Sk0 t'.st.length sk0) := k0k
  have ak1 := k1k 0 _ rfl
  have ak2 := k1k 1 _ rfl
  have ak3 := k1k 2 _ rfl
  have ak4 := k1k 3 _ rfl
  have ak5 := k1k 4 _ rfl
  have ak6 := k1k 5 _ rfl
  have ak7 := k1k 6 _ rfl
  simp only [Nat.zero_add, Nat.reduceAdd] at ak1 ak2 ak3 ak4 ak5 ak6 ak7
  have bk11 : V8.cell? ⟨(wd.heap.size), 11, none⟩ = some (.slice (some pk) k.th.length ctk) := by rw [HBK_8.out.cell, xek]; rfl
  have bk15 : V8.cell? ⟨(wd.heap.size), 15, none⟩ = some (.slice Bk k.od.length cok) := by rw [HBK_8.out.cell, xek]; rfl
  have lk := HBK_8.out.lt
  have lpk : (pk.add (j * 8)).block < V8.heap.size := by rw [block_of_add]; exact hpk
  clear k0k k1k euk Xk rok xek
  rw [HLEN.out] at bk11
  obtain ⟨na, ena⟩ : ∃ n, t.dn.length = n := ⟨_, rfl⟩
  obtain ⟨no, eno⟩ : ∃ n, h.od.length = n := ⟨_, rfl⟩
  obtain ⟨nt, ent⟩ : ∃ n, h.th.length = n := ⟨_, rfl⟩
  obtain ⟨m, em⟩ : ∃ n, t.lf.length = n + 1 := hlf
  have f1 : t'.dn.length = na + 1 := by rw [HDN.out, List.length_append, ena]; rfl
  have f2 : t'.lf.length = m := by rw [HLF.out, em]; rfl
  have f4 : k.od.length = no + 1 := by rw [HOD.out, List.length_append, eno]; rfl
  rw [ena] at ah7
  rw [em] at ah4
  rw [eno] at bh15
  rw [ent] at bh11 bk11
  rw [f1] at ak7
  rw [f2] at ak4
  rw [f4] at bk15
  have hj : j < nt := by rw [← ent]; exact HJ.out
  have n5 : nt ≤ 9223372036854775807 := by rw [ent] at mh6; omega
  have ook2 := ook
  rw [f4, HOD.out] at ook2
  have hmx := mk5
  rw [f4] at hmx
  have n1 : no + 1 ≤ 9223372036854775807 := by omega
  have n2 : na + 1 ≤ 9223372036854775807 := by rw [f1] at mk4; omega
  have n3 : m + 1 ≤ 9223372036854775807 := by rw [em] at mh2; omega
  obtain ⟨po, ep, hpo, ko⟩ := Rc.at_ (k := 1) (j := no) (x := (j : Int)) ook2 (fun _ => rfl) (by decide) (by rw [← eno]; simp)
  have o0 := ko 0 _ rfl
  rw [Nat.mul_one, Nat.add_zero] at o0
  subst ep
  have lpo : (po.add no).block < V8.heap.size := by rw [block_of_add]; exact hpo
  have dnk : Rc anc V8 (.slice Sk4 (na + 1) sk4) (t.dn ++ [a]) := by have q := HRTk.out.dn; rw [← HDN.out, ← f1]; exact q
  obtain ⟨pd, epd, hpd, pd0, pd1⟩ := rc_elem (k := 3) (j := na) (x := a) dnk (fun _ => rfl) (by decide) (by rw [← ena]; simp)
  have d0 : V8.cell? (pd.add (na * 3)) = some (.int .i64 a.1) := pd0
  have d1 := pd1 0 _ rfl
  have d2 := pd1 1 _ rfl
  simp only [Nat.zero_add, Nat.reduceAdd] at d1 d2
  have dl : (pd.add (na * 3)).block < V8.heap.size := by rw [block_of_add]; exact hpd
  subst epd
  have hNE := ne_ans a.1 a.2.1 a.2.2
  have ac := HBA_8.out.cell
  have al := HBA_8.out.lt
  rw [ent] at hoc
  clear eno ena ent em f1 f2 f4 mh1 mh2 mh3 mh4 mh5 mh6 mk1 mk2 mk3 mk4 mk5 mk6 gwh gah gbh gwk gak gbk hpk hph ooh ook ook2 hmx ko hpo pd0 pd1 dnk hpd
  generalize t.st.length = z1 at *
  generalize t'.st.length = z2 at *
  generalize t.lg.length = z4 at *
  generalize t'.lg.length = z5 at *
  generalize t.pd.length = z6 at *
  generalize t'.pd.length = z7 at *
  have q1 : decide (oth < 0) = false := decide_eq_false (by omega)
  have q2 : decide ((nt : Int) ≤ oth) = true := decide_eq_true (by omega)
  clear hoc
  go_upto_region 18 with fail
  go_quiet (fail)
  go_wp2
  go_ret
  exact ⟨rfl, (by (repeat (first | with_reducible exact HU_8.out | with_reducible refine Up.alloc ?_ _ | with_reducible refine Up.drew ?_ | with_reducible refine Up.drewN ?_ _)))⟩
set_option maxRecDepth 100000 in
set_option maxHeartbeats 16000000 in
theorem walk_in1same (C G : Array Value) (h : Hp) (j : Nat) (t : Th) (a : An) (oth : Int) (w : World) (hs : C.size = 17) (hone : C.all (·.oneCell') = true) (hi : In22 C G (j : Int) a oth) (HFEW : Hid (∀ W, Up w W → Calls Tryz.prog 10 #[.agg C] W fun e w' => e = .returned (.bool true) ∧ Up W w')) (hR : HpR w (.agg C) h) (hF : HpF h) (ht : h.th[j]? = some t) (hj0 : j < h.th.length) (hlf : ∃ n, t.lf.length = n + 1) (hoc : oth = (j : Int)) :
    Calls Tryz.prog 8 #[.agg G] w fun e w' => e = .returned (.bool true) ∧ Up w w' := by
  subst hoc
  have HI := Lib.hid hi
  have HONE := Lib.hid hone
  have HP0 := Lib.hid (fun W (u : Up w W) => hR.up u)
  have HDO := Lib.hid (fun W (u : Up w W) => answer_c (hR.up u) hF a (j : Int))
  have HTH := Lib.hid ht
  have HJ := Lib.hid hj0
  clear hi hone hR hF hj0
  have e0 : answered h (j : Int) a = ansH h j t a := by
    unfold answered
    rw [if_pos ⟨Int.natCast_nonneg _, by have := HJ.out; omega⟩, Int.toNat_natCast, ht]
  rw [e0] at HDO
  clear e0
  obtain ⟨k, ek⟩ : ∃ k, ansH h j t a = k := ⟨_, rfl⟩
  rw [ek] at HDO
  have HTK := Lib.hid (show k.th[j]? = some { t with dn := t.dn ++ [a], lf := t.lf.drop 1 } by rw [← ek]; show (h.th.set j _)[j]? = _; rw [List.getElem?_set_self HJ.out])
  have HLEN := Lib.hid (show k.th.length = h.th.length by rw [← ek]; show (h.th.set j _).length = _; rw [List.length_set])
  have HOD := Lib.hid (show k.od = h.od ++ [(j : Int)] by rw [← ek]; rfl)
  have HOTH := Lib.hid (show ∀ i, i ≠ j → k.th[i]? = h.th[i]? by rw [← ek]; intro i hi; show (h.th.set j _)[i]? = _; rw [List.getElem?_set_ne (fun q => hi q.symm)])
  clear ek ht
  obtain ⟨t', et'⟩ : ∃ t' : Th, { t with dn := t.dn ++ [a], lf := t.lf.drop 1 } = t' := ⟨_, rfl⟩
  rw [et'] at HTK
  have HDN := Lib.hid (show t'.dn = t.dn ++ [a] by rw [← et'])
  have HLF := Lib.hid (show t'.lf.length = t.lf.length - 1 by rw [← et']; show (t.lf.drop 1).length = _; rw [List.length_drop])
  clear et'
  go_enter Tryz.func8, Tryz.ntmps8
  go_wp2_with (with_reducible refine halt_at (o := ⟨_, Op.load 32 _, _, _, _, _⟩) ?_)
  unfold Halt
  refine list_at (fun V1 hV => ?_)
  have kv : Up w V1 := by rw [hV]; (repeat (first | with_reducible exact Up.refl _ | with_reducible refine Up.alloc ?_ _ | with_reducible refine Up.drew ?_ | with_reducible refine Up.drewN ?_ _))
  have nbI : Blk V1 (w.heap.size) 69 G := by rw [hV]; (repeat (first | with_reducible exact Blk.new' _ (by simp) _ _ | with_reducible exact Blk.new _ _ _ | with_reducible refine Blk.alloc ?_ _ | with_reducible refine Blk.drew ?_))
  clear hV
  have HU_1 := Lib.hid (kv)
  clear kv
  have HBI_1 := Lib.hid nbI
  clear nbI
  have hra : V1.rangeAt (w.heap.size) 0 C.toList := fun i v q => by
    rw [Nat.zero_add, HBI_1.out.cell]
    exact HI.out.r i v q
  have HRA := Lib.hid hra
  clear hra
  have j17 : V1.cell? ⟨(w.heap.size), 17, none⟩ = some (.int .i64 (j : Int)) := by rw [HBI_1.out.cell]; exact HI.out.t
  have j18 : V1.cell? ⟨(w.heap.size), 18, none⟩ = some (.int .i64 a.1) := by rw [HBI_1.out.cell]; exact HI.out.a0
  have j19 : V1.cell? ⟨(w.heap.size), 19, none⟩ = some (.int .u64 a.2.1) := by rw [HBI_1.out.cell]; exact HI.out.a1
  have j20 : V1.cell? ⟨(w.heap.size), 20, none⟩ = some (.bool a.2.2) := by rw [HBI_1.out.cell]; exact HI.out.a2
  have j21 : V1.cell? ⟨(w.heap.size), 21, none⟩ = some (.int .i64 (j : Int)) := by rw [HBI_1.out.cell]; exact HI.out.o
  have jl := HBI_1.out.lt
  refine heap_mid (by rfl) _ rfl rfl HRA.out hs ?_
  go_wp2_with (with_reducible refine halt_at (o := ⟨_, Op.store 32 _ _, _, _, _, _⟩) ?_)
  unfold Halt
  refine heap_new (C := C) (by rfl) _ _ rfl rfl rfl rfl (by first | rfl | simp) hs rfl HONE.out ?_
  simp only [put_none]
  refine list_at (fun V2 hV => ?_)
  have kv : Up V1 V2 := by rw [hV]; (repeat (first | with_reducible exact Up.refl _ | with_reducible refine Up.alloc ?_ _ | with_reducible refine Up.drew ?_ | with_reducible refine Up.drewN ?_ _))
  have nbH : Blk V2 (V1.heap.size) 32 C := by rw [hV]; (repeat (first | with_reducible exact Blk.new' _ (by simp) _ _ | with_reducible exact Blk.new _ _ _ | with_reducible refine Blk.alloc ?_ _ | with_reducible refine Blk.drew ?_))
  have kv2 := kv
  clear hV
  have HBI_2 := Lib.hid (HBI_1.out.up kv)
  have HU_2 := Lib.hid (HU_1.out.trans kv)
  clear HBI_1 HU_1
  clear kv
  have HBH_2 := Lib.hid nbH
  clear nbH
  have y17 := kv2.cell j17
  have y18 := kv2.cell j18
  have y19 := kv2.cell j19
  have y20 := kv2.cell j20
  have y21 := kv2.cell j21
  have yl := HBI_2.out.lt
  clear j17 j18 j19 j20 j21 jl kv2 HRA
  go_wp2_with (fail)
  clear y17 y18 y19 y20 y21 yl
  refine calls_at (fun V3 hV => ?_)
  have kv : Up V2 V3 := by rw [hV]; (repeat (first | with_reducible exact Up.refl _ | with_reducible refine Up.alloc ?_ _ | with_reducible refine Up.drew ?_ | with_reducible refine Up.drewN ?_ _))
  have nbA : Blk V3 (V2.heap.size) 56 #[.int .i64 a.1, .int .u64 a.2.1, .bool a.2.2] := by rw [hV]; (repeat (first | with_reducible exact Blk.new' _ (by simp) _ _ | with_reducible exact Blk.new _ _ _ | with_reducible refine Blk.alloc ?_ _ | with_reducible refine Blk.drew ?_))
  clear hV
  have HBI_3 := Lib.hid (HBI_2.out.up kv)
  have HBH_3 := Lib.hid (HBH_2.out.up kv)
  have HU_3 := Lib.hid (HU_2.out.trans kv)
  clear HBI_2 HBH_2 HU_2
  clear kv
  have HBA_3 := Lib.hid nbA
  clear nbA
  refine (shown17 V3).mono ?_
  rintro e w4 ⟨rfl, k3⟩
  have HBI_4 := Lib.hid (HBI_3.out.up k3)
  have HBH_4 := Lib.hid (HBH_3.out.up k3)
  have HBA_4 := Lib.hid (HBA_3.out.up k3)
  have HU_4 := Lib.hid (HU_3.out.trans k3)
  clear HBI_3 HBH_3 HBA_3 HU_3
  clear k3
  go_wp2_with (with_reducible refine halt_at (o := ⟨_, Op.load 32 _, _, _, _, _⟩) ?_)
  unfold Halt
  refine heap_load (by rfl) _ rfl rfl HBH_4.out hs ?_
  go_wp2_with (fail)
  refine calls_at (fun V5 hV => ?_)
  have kv : Up w4 V5 := by rw [hV]; (repeat (first | with_reducible exact Up.refl _ | with_reducible refine Up.alloc ?_ _ | with_reducible refine Up.drew ?_ | with_reducible refine Up.drewN ?_ _))
  clear hV
  have HBI_5 := Lib.hid (HBI_4.out.up kv)
  have HBH_5 := Lib.hid (HBH_4.out.up kv)
  have HBA_5 := Lib.hid (HBA_4.out.up kv)
  have HU_5 := Lib.hid (HU_4.out.trans kv)
  clear HBI_4 HBH_4 HBA_4 HU_4
  clear kv
  refine (HFEW.out V5 HU_5.out).mono ?_
  rintro e w6 ⟨rfl, k5⟩
  have HBI_6 := Lib.hid (HBI_5.out.up k5)
  have HBH_6 := Lib.hid (HBH_5.out.up k5)
  have HBA_6 := Lib.hid (HBA_5.out.up k5)
  have HU_6 := Lib.hid (HU_5.out.trans k5)
  clear HBI_5 HBH_5 HBA_5 HU_5
  clear k5
  go_wp2_with (with_reducible refine halt_at (o := ⟨_, Op.load 32 _, _, _, _, _⟩) ?_)
  unfold Halt
  refine heap_load (by rfl) _ rfl rfl HBH_6.out hs ?_
  have ac := HBA_6.out.cell
  have al := HBA_6.out.lt
  have HQ := Lib.hid (HDO.out _ HU_6.out)
  go_wp2_with (fail)
  refine HQ.out.mono ?_
  rintro e wd ⟨K, rfl, hk, kd⟩
  clear ac al
  have HBI_7 := Lib.hid (HBI_6.out.up kd)
  have HBH_7 := Lib.hid (HBH_6.out.up kd)
  have HBA_7 := Lib.hid (HBA_6.out.up kd)
  have HU_7 := Lib.hid (HU_6.out.trans kd)
  clear HBI_6 HBH_6 HBA_6 HU_6
  have HPK_7 := Lib.hid hk
  have HPH_7 := Lib.hid (HP0.out _ HU_7.out)
  clear kd HQ hk HP0 HDO
  go_wp2_with (with_reducible refine halt_at (o := ⟨_, Op.store 32 _ _, _, _, _, _⟩) ?_)
  unfold Halt
  refine heap_new (C := K) (by rfl) _ _ rfl rfl rfl rfl (by first | rfl | simp) HPK_7.out.size rfl HPK_7.out.one ?_
  simp only [put_none]
  refine list_at (fun V8 hV => ?_)
  have kv : Up wd V8 := by rw [hV]; (repeat (first | with_reducible exact Up.refl _ | with_reducible refine Up.alloc ?_ _ | with_reducible refine Up.drew ?_ | with_reducible refine Up.drewN ?_ _))
  have nbK : Blk V8 (wd.heap.size) 32 K := by rw [hV]; (repeat (first | with_reducible exact Blk.new' _ (by simp) _ _ | with_reducible exact Blk.new _ _ _ | with_reducible refine Blk.alloc ?_ _ | with_reducible refine Blk.drew ?_))
  clear hV
  have HBI_8 := Lib.hid (HBI_7.out.up kv)
  have HBH_8 := Lib.hid (HBH_7.out.up kv)
  have HBA_8 := Lib.hid (HBA_7.out.up kv)
  have HPK_8 := Lib.hid (HPK_7.out.up kv)
  have HPH_8 := Lib.hid (HPH_7.out.up kv)
  have HU_8 := Lib.hid (HU_7.out.trans kv)
  clear HBI_7 HBH_7 HBA_7 HPK_7 HPH_7 HU_7
  clear kv
  have HBK_8 := Lib.hid nbK
  clear nbK
  obtain ⟨Ph, Qh, ch, dh, Ah, cth, ush, Bh, coh, Xh⟩ := HPH_8.out.x
  obtain ⟨uh, euh, Rh⟩ := Xh.t.at_ (j := j) (t := t) HTH.out
  have roh := Xh.r
  have ooh := Xh.o
  have xeh := Xh.e
  obtain ⟨Sh0, sh0, qh0⟩ := Rh.st.slice
  obtain ⟨Sh1, sh1, qh1⟩ := Rh.lg.slice
  obtain ⟨Sh2, sh2, qh2⟩ := Rh.lf.slice
  obtain ⟨Sh3, sh3, qh3⟩ := Rh.pd.slice
  obtain ⟨Sh4, sh4, qh4⟩ := Rh.dn.slice
  have mh1 := Rh.lg.max
  have mh2 := Rh.lf.max
  have mh3 := Rh.pd.max
  have mh4 := Rh.dn.max
  have mh5 := ooh.max
  have mh6 := roh.max
  unfold maxLen at mh1 mh2 mh3 mh4 mh5 mh6
  rw [show ush.length = h.th.length from Xh.t.1] at mh6
  have gwh := Rh.wt
  have gah := Rh.ba
  have gbh := Rh.be
  have HRTh := Lib.hid Rh
  clear Rh
  obtain ⟨usth, ubah, ubeh, ulgh, ulfh, updh, uwth, udnh⟩ := uh
  simp only at qh0 qh1 qh2 qh3 qh4 gwh gah gbh
  subst qh0 qh1 qh2 qh3 qh4
  obtain ⟨ph, rfl, hph, k0h, k1h⟩ := rc_elem (k := 8) roh (fun _ => rfl) (by decide) euh
  have ah0 : V8.cell? (ph.add (j * 8)) = some (.slice Sh0 t.st.length sh0) := k0h
  have ah1 := k1h 0 _ rfl
  have ah2 := k1h 1 _ rfl
  have ah3 := k1h 2 _ rfl
  have ah4 := k1h 3 _ rfl
  have ah5 := k1h 4 _ rfl
  have ah6 := k1h 5 _ rfl
  have ah7 := k1h 6 _ rfl
  simp only [Nat.zero_add, Nat.reduceAdd] at ah1 ah2 ah3 ah4 ah5 ah6 ah7
  have bh11 : V8.cell? ⟨(V1.heap.size), 11, none⟩ = some (.slice (some ph) h.th.length cth) := by rw [HBH_8.out.cell, xeh]; rfl
  have bh15 : V8.cell? ⟨(V1.heap.size), 15, none⟩ = some (.slice Bh h.od.length coh) := by rw [HBH_8.out.cell, xeh]; rfl
  have lh := HBH_8.out.lt
  have lph : (ph.add (j * 8)).block < V8.heap.size := by rw [block_of_add]; exact hph
  clear k0h k1h euh Xh roh xeh
  obtain ⟨Pk, Qk, ck, dk, Ak, ctk, usk, Bk, cok, Xk⟩ := HPK_8.out.x
  obtain ⟨uk, euk, Rk⟩ := Xk.t.at_ (j := j) (t := t') HTK.out
  have rok := Xk.r
  have ook := Xk.o
  have xek := Xk.e
  obtain ⟨Sk0, sk0, qk0⟩ := Rk.st.slice
  obtain ⟨Sk1, sk1, qk1⟩ := Rk.lg.slice
  obtain ⟨Sk2, sk2, qk2⟩ := Rk.lf.slice
  obtain ⟨Sk3, sk3, qk3⟩ := Rk.pd.slice
  obtain ⟨Sk4, sk4, qk4⟩ := Rk.dn.slice
  have mk1 := Rk.lg.max
  have mk2 := Rk.lf.max
  have mk3 := Rk.pd.max
  have mk4 := Rk.dn.max
  have mk5 := ook.max
  have mk6 := rok.max
  unfold maxLen at mk1 mk2 mk3 mk4 mk5 mk6
  rw [show usk.length = k.th.length from Xk.t.1] at mk6
  have gwk := Rk.wt
  have gak := Rk.ba
  have gbk := Rk.be
  have HRTk := Lib.hid Rk
  clear Rk
  obtain ⟨ustk, ubak, ubek, ulgk, ulfk, updk, uwtk, udnk⟩ := uk
  simp only at qk0 qk1 qk2 qk3 qk4 gwk gak gbk
  subst qk0 qk1 qk2 qk3 qk4
  obtain ⟨pk, rfl, hpk, k0k, k1k⟩ := rc_elem (k := 8) rok (fun _ => rfl) (by decide) euk
  have ak0 : V8.cell? (pk.add (j * 8)) = some (.slice Sk0 t'.st.length sk0) := k0k
  have ak1 := k1k 0 _ rfl
  have ak2 := k1k 1 _ rfl
  have ak3 := k1k 2 _ rfl
  have ak4 := k1k 3 _ rfl
  have ak5 := k1k 4 _ rfl
  have ak6 := k1k 5 _ rfl
  have ak7 := k1k 6 _ rfl
  simp only [Nat.zero_add, Nat.reduceAdd] at ak1 ak2 ak3 ak4 ak5 ak6 ak7
  have bk11 : V8.cell? ⟨(wd.heap.size), 11, none⟩ = some (.slice (some pk) k.th.length ctk) := by rw [HBK_8.out.cell, xek]; rfl
  have bk15 : V8.cell? ⟨(wd.heap.size), 15, none⟩ = some (.slice Bk k.od.length cok) := by rw [HBK_8.out.cell, xek]; rfl
  have lk := HBK_8.out.lt
  have lpk : (pk.add (j * 8)).block < V8.heap.size := by rw [block_of_add]; exact hpk
  clear k0k k1k euk Xk rok xek
  rw [HLEN.out] at bk11
  obtain ⟨na, ena⟩ : ∃ n, t.dn.length = n := ⟨_, rfl⟩
  obtain ⟨no, eno⟩ : ∃ n, h.od.length = n := ⟨_, rfl⟩
  obtain ⟨nt, ent⟩ : ∃ n, h.th.length = n := ⟨_, rfl⟩
  obtain ⟨m, em⟩ : ∃ n, t.lf.length = n + 1 := hlf
  have f1 : t'.dn.length = na + 1 := by rw [HDN.out, List.length_append, ena]; rfl
  have f2 : t'.lf.length = m := by rw [HLF.out, em]; rfl
  have f4 : k.od.length = no + 1 := by rw [HOD.out, List.length_append, eno]; rfl
  rw [ena] at ah7
  rw [em] at ah4
  rw [eno] at bh15
  rw [ent] at bh11 bk11
  rw [f1] at ak7
  rw [f2] at ak4
  rw [f4] at bk15
  have hj : j < nt := by rw [← ent]; exact HJ.out
  have n5 : nt ≤ 9223372036854775807 := by rw [ent] at mh6; omega
  have ook2 := ook
  rw [f4, HOD.out] at ook2
  have hmx := mk5
  rw [f4] at hmx
  have n1 : no + 1 ≤ 9223372036854775807 := by omega
  have n2 : na + 1 ≤ 9223372036854775807 := by rw [f1] at mk4; omega
  have n3 : m + 1 ≤ 9223372036854775807 := by rw [em] at mh2; omega
  obtain ⟨po, ep, hpo, ko⟩ := Rc.at_ (k := 1) (j := no) (x := (j : Int)) ook2 (fun _ => rfl) (by decide) (by rw [← eno]; simp)
  have o0 := ko 0 _ rfl
  rw [Nat.mul_one, Nat.add_zero] at o0
  subst ep
  have lpo : (po.add no).block < V8.heap.size := by rw [block_of_add]; exact hpo
  have dnk : Rc anc V8 (.slice Sk4 (na + 1) sk4) (t.dn ++ [a]) := by have q := HRTk.out.dn; rw [← HDN.out, ← f1]; exact q
  obtain ⟨pd, epd, hpd, pd0, pd1⟩ := rc_elem (k := 3) (j := na) (x := a) dnk (fun _ => rfl) (by decide) (by rw [← ena]; simp)
  have d0 : V8.cell? (pd.add (na * 3)) = some (.int .i64 a.1) := pd0
  have d1 := pd1 0 _ rfl
  have d2 := pd1 1 _ rfl
  simp only [Nat.zero_add, Nat.reduceAdd] at d1 d2
  have dl : (pd.add (na * 3)).block < V8.heap.size := by rw [block_of_add]; exact hpd
  subst epd
  have hNE := ne_ans a.1 a.2.1 a.2.2
  have ac := HBA_8.out.cell
  have al := HBA_8.out.lt
  clear eno ena ent em f1 f2 f4 mh1 mh2 mh3 mh4 mh5 mh6 mk1 mk2 mk3 mk4 mk5 mk6 gwh gah gbh gwk gak gbk hpk hph ooh ook ook2 hmx ko hpo pd0 pd1 dnk hpd
  generalize t.st.length = z1 at *
  generalize t'.st.length = z2 at *
  generalize t.lg.length = z4 at *
  generalize t'.lg.length = z5 at *
  generalize t.pd.length = z6 at *
  generalize t'.pd.length = z7 at *
  have q1 : decide ((nt : Int) ≤ (j : Int)) = false := decide_eq_false (by omega)
  go_upto_region 18 with fail
  go_quiet (fail)
  go_wp2
  go_ret
  exact ⟨rfl, (by (repeat (first | with_reducible exact HU_8.out | with_reducible refine Up.alloc ?_ _ | with_reducible refine Up.drew ?_ | with_reducible refine Up.drewN ?_ _)))⟩
set_option maxRecDepth 100000 in
set_option maxHeartbeats 16000000 in
theorem walk_in1i (C G : Array Value) (h : Hp) (j : Nat) (t : Th) (a : An) (oth : Int) (w : World) (hs : C.size = 17) (hone : C.all (·.oneCell') = true) (hi : In22 C G (j : Int) a oth) (HFEW : Hid (∀ W, Up w W → Calls Tryz.prog 10 #[.agg C] W fun e w' => e = .returned (.bool true) ∧ Up W w')) (hR : HpR w (.agg C) h) (hF : HpF h) (ht : h.th[j]? = some t) (hj0 : j < h.th.length) (hlf : ∃ n, t.lf.length = n + 1) (i : Nat) (s0 : Th) (HIL : Hid (i < h.th.length)) (HIJ : Hid (i ≠ j)) (HTI : Hid (h.th[i]? = some s0)) (hoc : oth = (i : Int)) :
    Calls Tryz.prog 8 #[.agg G] w fun e w' => e = .returned (.bool true) ∧ Up w w' := by
  subst hoc
  have HI := Lib.hid hi
  have HONE := Lib.hid hone
  have HP0 := Lib.hid (fun W (u : Up w W) => hR.up u)
  have HDO := Lib.hid (fun W (u : Up w W) => answer_c (hR.up u) hF a (j : Int))
  have HTH := Lib.hid ht
  have HJ := Lib.hid hj0
  clear hi hone hR hF hj0
  have e0 : answered h (j : Int) a = ansH h j t a := by
    unfold answered
    rw [if_pos ⟨Int.natCast_nonneg _, by have := HJ.out; omega⟩, Int.toNat_natCast, ht]
  rw [e0] at HDO
  clear e0
  obtain ⟨k, ek⟩ : ∃ k, ansH h j t a = k := ⟨_, rfl⟩
  rw [ek] at HDO
  have HTK := Lib.hid (show k.th[j]? = some { t with dn := t.dn ++ [a], lf := t.lf.drop 1 } by rw [← ek]; show (h.th.set j _)[j]? = _; rw [List.getElem?_set_self HJ.out])
  have HLEN := Lib.hid (show k.th.length = h.th.length by rw [← ek]; show (h.th.set j _).length = _; rw [List.length_set])
  have HOD := Lib.hid (show k.od = h.od ++ [(j : Int)] by rw [← ek]; rfl)
  have HOTH := Lib.hid (show ∀ i, i ≠ j → k.th[i]? = h.th[i]? by rw [← ek]; intro i hi; show (h.th.set j _)[i]? = _; rw [List.getElem?_set_ne (fun q => hi q.symm)])
  clear ek ht
  obtain ⟨t', et'⟩ : ∃ t' : Th, { t with dn := t.dn ++ [a], lf := t.lf.drop 1 } = t' := ⟨_, rfl⟩
  rw [et'] at HTK
  have HDN := Lib.hid (show t'.dn = t.dn ++ [a] by rw [← et'])
  have HLF := Lib.hid (show t'.lf.length = t.lf.length - 1 by rw [← et']; show (t.lf.drop 1).length = _; rw [List.length_drop])
  clear et'
  go_enter Tryz.func8, Tryz.ntmps8
  go_wp2_with (with_reducible refine halt_at (o := ⟨_, Op.load 32 _, _, _, _, _⟩) ?_)
  unfold Halt
  refine list_at (fun V1 hV => ?_)
  have kv : Up w V1 := by rw [hV]; (repeat (first | with_reducible exact Up.refl _ | with_reducible refine Up.alloc ?_ _ | with_reducible refine Up.drew ?_ | with_reducible refine Up.drewN ?_ _))
  have nbI : Blk V1 (w.heap.size) 69 G := by rw [hV]; (repeat (first | with_reducible exact Blk.new' _ (by simp) _ _ | with_reducible exact Blk.new _ _ _ | with_reducible refine Blk.alloc ?_ _ | with_reducible refine Blk.drew ?_))
  clear hV
  have HU_1 := Lib.hid (kv)
  clear kv
  have HBI_1 := Lib.hid nbI
  clear nbI
  have hra : V1.rangeAt (w.heap.size) 0 C.toList := fun i v q => by
    rw [Nat.zero_add, HBI_1.out.cell]
    exact HI.out.r i v q
  have HRA := Lib.hid hra
  clear hra
  have j17 : V1.cell? ⟨(w.heap.size), 17, none⟩ = some (.int .i64 (j : Int)) := by rw [HBI_1.out.cell]; exact HI.out.t
  have j18 : V1.cell? ⟨(w.heap.size), 18, none⟩ = some (.int .i64 a.1) := by rw [HBI_1.out.cell]; exact HI.out.a0
  have j19 : V1.cell? ⟨(w.heap.size), 19, none⟩ = some (.int .u64 a.2.1) := by rw [HBI_1.out.cell]; exact HI.out.a1
  have j20 : V1.cell? ⟨(w.heap.size), 20, none⟩ = some (.bool a.2.2) := by rw [HBI_1.out.cell]; exact HI.out.a2
  have j21 : V1.cell? ⟨(w.heap.size), 21, none⟩ = some (.int .i64 (i : Int)) := by rw [HBI_1.out.cell]; exact HI.out.o
  have jl := HBI_1.out.lt
  refine heap_mid (by rfl) _ rfl rfl HRA.out hs ?_
  go_wp2_with (with_reducible refine halt_at (o := ⟨_, Op.store 32 _ _, _, _, _, _⟩) ?_)
  unfold Halt
  refine heap_new (C := C) (by rfl) _ _ rfl rfl rfl rfl (by first | rfl | simp) hs rfl HONE.out ?_
  simp only [put_none]
  refine list_at (fun V2 hV => ?_)
  have kv : Up V1 V2 := by rw [hV]; (repeat (first | with_reducible exact Up.refl _ | with_reducible refine Up.alloc ?_ _ | with_reducible refine Up.drew ?_ | with_reducible refine Up.drewN ?_ _))
  have nbH : Blk V2 (V1.heap.size) 32 C := by rw [hV]; (repeat (first | with_reducible exact Blk.new' _ (by simp) _ _ | with_reducible exact Blk.new _ _ _ | with_reducible refine Blk.alloc ?_ _ | with_reducible refine Blk.drew ?_))
  have kv2 := kv
  clear hV
  have HBI_2 := Lib.hid (HBI_1.out.up kv)
  have HU_2 := Lib.hid (HU_1.out.trans kv)
  clear HBI_1 HU_1
  clear kv
  have HBH_2 := Lib.hid nbH
  clear nbH
  have y17 := kv2.cell j17
  have y18 := kv2.cell j18
  have y19 := kv2.cell j19
  have y20 := kv2.cell j20
  have y21 := kv2.cell j21
  have yl := HBI_2.out.lt
  clear j17 j18 j19 j20 j21 jl kv2 HRA
  go_wp2_with (fail)
  clear y17 y18 y19 y20 y21 yl
  refine calls_at (fun V3 hV => ?_)
  have kv : Up V2 V3 := by rw [hV]; (repeat (first | with_reducible exact Up.refl _ | with_reducible refine Up.alloc ?_ _ | with_reducible refine Up.drew ?_ | with_reducible refine Up.drewN ?_ _))
  have nbA : Blk V3 (V2.heap.size) 56 #[.int .i64 a.1, .int .u64 a.2.1, .bool a.2.2] := by rw [hV]; (repeat (first | with_reducible exact Blk.new' _ (by simp) _ _ | with_reducible exact Blk.new _ _ _ | with_reducible refine Blk.alloc ?_ _ | with_reducible refine Blk.drew ?_))
  clear hV
  have HBI_3 := Lib.hid (HBI_2.out.up kv)
  have HBH_3 := Lib.hid (HBH_2.out.up kv)
  have HU_3 := Lib.hid (HU_2.out.trans kv)
  clear HBI_2 HBH_2 HU_2
  clear kv
  have HBA_3 := Lib.hid nbA
  clear nbA
  refine (shown17 V3).mono ?_
  rintro e w4 ⟨rfl, k3⟩
  have HBI_4 := Lib.hid (HBI_3.out.up k3)
  have HBH_4 := Lib.hid (HBH_3.out.up k3)
  have HBA_4 := Lib.hid (HBA_3.out.up k3)
  have HU_4 := Lib.hid (HU_3.out.trans k3)
  clear HBI_3 HBH_3 HBA_3 HU_3
  clear k3
  go_wp2_with (with_reducible refine halt_at (o := ⟨_, Op.load 32 _, _, _, _, _⟩) ?_)
  unfold Halt
  refine heap_load (by rfl) _ rfl rfl HBH_4.out hs ?_
  go_wp2_with (fail)
  refine calls_at (fun V5 hV => ?_)
  have kv : Up w4 V5 := by rw [hV]; (repeat (first | with_reducible exact Up.refl _ | with_reducible refine Up.alloc ?_ _ | with_reducible refine Up.drew ?_ | with_reducible refine Up.drewN ?_ _))
  clear hV
  have HBI_5 := Lib.hid (HBI_4.out.up kv)
  have HBH_5 := Lib.hid (HBH_4.out.up kv)
  have HBA_5 := Lib.hid (HBA_4.out.up kv)
  have HU_5 := Lib.hid (HU_4.out.trans kv)
  clear HBI_4 HBH_4 HBA_4 HU_4
  clear kv
  refine (HFEW.out V5 HU_5.out).mono ?_
  rintro e w6 ⟨rfl, k5⟩
  have HBI_6 := Lib.hid (HBI_5.out.up k5)
  have HBH_6 := Lib.hid (HBH_5.out.up k5)
  have HBA_6 := Lib.hid (HBA_5.out.up k5)
  have HU_6 := Lib.hid (HU_5.out.trans k5)
  clear HBI_5 HBH_5 HBA_5 HU_5
  clear k5
  go_wp2_with (with_reducible refine halt_at (o := ⟨_, Op.load 32 _, _, _, _, _⟩) ?_)
  unfold Halt
  refine heap_load (by rfl) _ rfl rfl HBH_6.out hs ?_
  have ac := HBA_6.out.cell
  have al := HBA_6.out.lt
  have HQ := Lib.hid (HDO.out _ HU_6.out)
  go_wp2_with (fail)
  refine HQ.out.mono ?_
  rintro e wd ⟨K, rfl, hk, kd⟩
  clear ac al
  have HBI_7 := Lib.hid (HBI_6.out.up kd)
  have HBH_7 := Lib.hid (HBH_6.out.up kd)
  have HBA_7 := Lib.hid (HBA_6.out.up kd)
  have HU_7 := Lib.hid (HU_6.out.trans kd)
  clear HBI_6 HBH_6 HBA_6 HU_6
  have HPK_7 := Lib.hid hk
  have HPH_7 := Lib.hid (HP0.out _ HU_7.out)
  clear kd HQ hk HP0 HDO
  go_wp2_with (with_reducible refine halt_at (o := ⟨_, Op.store 32 _ _, _, _, _, _⟩) ?_)
  unfold Halt
  refine heap_new (C := K) (by rfl) _ _ rfl rfl rfl rfl (by first | rfl | simp) HPK_7.out.size rfl HPK_7.out.one ?_
  simp only [put_none]
  refine list_at (fun V8 hV => ?_)
  have kv : Up wd V8 := by rw [hV]; (repeat (first | with_reducible exact Up.refl _ | with_reducible refine Up.alloc ?_ _ | with_reducible refine Up.drew ?_ | with_reducible refine Up.drewN ?_ _))
  have nbK : Blk V8 (wd.heap.size) 32 K := by rw [hV]; (repeat (first | with_reducible exact Blk.new' _ (by simp) _ _ | with_reducible exact Blk.new _ _ _ | with_reducible refine Blk.alloc ?_ _ | with_reducible refine Blk.drew ?_))
  clear hV
  have HBI_8 := Lib.hid (HBI_7.out.up kv)
  have HBH_8 := Lib.hid (HBH_7.out.up kv)
  have HBA_8 := Lib.hid (HBA_7.out.up kv)
  have HPK_8 := Lib.hid (HPK_7.out.up kv)
  have HPH_8 := Lib.hid (HPH_7.out.up kv)
  have HU_8 := Lib.hid (HU_7.out.trans kv)
  clear HBI_7 HBH_7 HBA_7 HPK_7 HPH_7 HU_7
  clear kv
  have HBK_8 := Lib.hid nbK
  clear nbK
  obtain ⟨Ph, Qh, ch, dh, Ah, cth, ush, Bh, coh, Xh⟩ := HPH_8.out.x
  obtain ⟨uh, euh, Rh⟩ := Xh.t.at_ (j := j) (t := t) HTH.out
  have roh := Xh.r
  have ooh := Xh.o
  have xeh := Xh.e
  obtain ⟨Sh0, sh0, qh0⟩ := Rh.st.slice
  obtain ⟨Sh1, sh1, qh1⟩ := Rh.lg.slice
  obtain ⟨Sh2, sh2, qh2⟩ := Rh.lf.slice
  obtain ⟨Sh3, sh3, qh3⟩ := Rh.pd.slice
  obtain ⟨Sh4, sh4, qh4⟩ := Rh.dn.slice
  have mh1 := Rh.lg.max
  have mh2 := Rh.lf.max
  have mh3 := Rh.pd.max
  have mh4 := Rh.dn.max
  have mh5 := ooh.max
  have mh6 := roh.max
  unfold maxLen at mh1 mh2 mh3 mh4 mh5 mh6
  rw [show ush.length = h.th.length from Xh.t.1] at mh6
  have gwh := Rh.wt
  have gah := Rh.ba
  have gbh := Rh.be
  have HRTh := Lib.hid Rh
  clear Rh
  obtain ⟨usth, ubah, ubeh, ulgh, ulfh, updh, uwth, udnh⟩ := uh
  simp only at qh0 qh1 qh2 qh3 qh4 gwh gah gbh
  subst qh0 qh1 qh2 qh3 qh4
  obtain ⟨ph, rfl, hph, k0h, k1h⟩ := rc_elem (k := 8) roh (fun _ => rfl) (by decide) euh
  have ah0 : V8.cell? (ph.add (j * 8)) = some (.slice Sh0 t.st.length sh0) := k0h
  have ah1 := k1h 0 _ rfl
  have ah2 := k1h 1 _ rfl
  have ah3 := k1h 2 _ rfl
  have ah4 := k1h 3 _ rfl
  have ah5 := k1h 4 _ rfl
  have ah6 := k1h 5 _ rfl
  have ah7 := k1h 6 _ rfl
  simp only [Nat.zero_add, Nat.reduceAdd] at ah1 ah2 ah3 ah4 ah5 ah6 ah7
  have bh11 : V8.cell? ⟨(V1.heap.size), 11, none⟩ = some (.slice (some ph) h.th.length cth) := by rw [HBH_8.out.cell, xeh]; rfl
  have bh15 : V8.cell? ⟨(V1.heap.size), 15, none⟩ = some (.slice Bh h.od.length coh) := by rw [HBH_8.out.cell, xeh]; rfl
  have lh := HBH_8.out.lt
  have lph : (ph.add (j * 8)).block < V8.heap.size := by rw [block_of_add]; exact hph
  clear k0h k1h euh Xh roh xeh
  obtain ⟨Pk, Qk, ck, dk, Ak, ctk, usk, Bk, cok, Xk⟩ := HPK_8.out.x
  obtain ⟨uk, euk, Rk⟩ := Xk.t.at_ (j := j) (t := t') HTK.out
  have rok := Xk.r
  have ook := Xk.o
  have xek := Xk.e
  obtain ⟨Sk0, sk0, qk0⟩ := Rk.st.slice
  obtain ⟨Sk1, sk1, qk1⟩ := Rk.lg.slice
  obtain ⟨Sk2, sk2, qk2⟩ := Rk.lf.slice
  obtain ⟨Sk3, sk3, qk3⟩ := Rk.pd.slice
  obtain ⟨Sk4, sk4, qk4⟩ := Rk.dn.slice
  have mk1 := Rk.lg.max
  have mk2 := Rk.lf.max
  have mk3 := Rk.pd.max
  have mk4 := Rk.dn.max
  have mk5 := ook.max
  have mk6 := rok.max
  unfold maxLen at mk1 mk2 mk3 mk4 mk5 mk6
  rw [show usk.length = k.th.length from Xk.t.1] at mk6
  have gwk := Rk.wt
  have gak := Rk.ba
  have gbk := Rk.be
  have HRTk := Lib.hid Rk
  clear Rk
  obtain ⟨ustk, ubak, ubek, ulgk, ulfk, updk, uwtk, udnk⟩ := uk
  simp only at qk0 qk1 qk2 qk3 qk4 gwk gak gbk
  subst qk0 qk1 qk2 qk3 qk4
  obtain ⟨pk, rfl, hpk, k0k, k1k⟩ := rc_elem (k := 8) rok (fun _ => rfl) (by decide) euk
  have ak0 : V8.cell? (pk.add (j * 8)) = some (.slice Sk0 t'.st.length sk0) := k0k
  have ak1 := k1k 0 _ rfl
  have ak2 := k1k 1 _ rfl
  have ak3 := k1k 2 _ rfl
  have ak4 := k1k 3 _ rfl
  have ak5 := k1k 4 _ rfl
  have ak6 := k1k 5 _ rfl
  have ak7 := k1k 6 _ rfl
  simp only [Nat.zero_add, Nat.reduceAdd] at ak1 ak2 ak3 ak4 ak5 ak6 ak7
  have bk11 : V8.cell? ⟨(wd.heap.size), 11, none⟩ = some (.slice (some pk) k.th.length ctk) := by rw [HBK_8.out.cell, xek]; rfl
  have bk15 : V8.cell? ⟨(wd.heap.size), 15, none⟩ = some (.slice Bk k.od.length cok) := by rw [HBK_8.out.cell, xek]; rfl
  have lk := HBK_8.out.lt
  have lpk : (pk.add (j * 8)).block < V8.heap.size := by rw [block_of_add]; exact hpk
  clear k0k k1k euk Xk rok xek
  rw [HLEN.out] at bk11
  obtain ⟨na, ena⟩ : ∃ n, t.dn.length = n := ⟨_, rfl⟩
  obtain ⟨no, eno⟩ : ∃ n, h.od.length = n := ⟨_, rfl⟩
  obtain ⟨nt, ent⟩ : ∃ n, h.th.length = n := ⟨_, rfl⟩
  obtain ⟨m, em⟩ : ∃ n, t.lf.length = n + 1 := hlf
  have f1 : t'.dn.length = na + 1 := by rw [HDN.out, List.length_append, ena]; rfl
  have f2 : t'.lf.length = m := by rw [HLF.out, em]; rfl
  have f4 : k.od.length = no + 1 := by rw [HOD.out, List.length_append, eno]; rfl
  rw [ena] at ah7
  rw [em] at ah4
  rw [eno] at bh15
  rw [ent] at bh11 bk11
  rw [f1] at ak7
  rw [f2] at ak4
  rw [f4] at bk15
  have hj : j < nt := by rw [← ent]; exact HJ.out
  have n5 : nt ≤ 9223372036854775807 := by rw [ent] at mh6; omega
  have ook2 := ook
  rw [f4, HOD.out] at ook2
  have hmx := mk5
  rw [f4] at hmx
  have n1 : no + 1 ≤ 9223372036854775807 := by omega
  have n2 : na + 1 ≤ 9223372036854775807 := by rw [f1] at mk4; omega
  have n3 : m + 1 ≤ 9223372036854775807 := by rw [em] at mh2; omega
  obtain ⟨po, ep, hpo, ko⟩ := Rc.at_ (k := 1) (j := no) (x := (j : Int)) ook2 (fun _ => rfl) (by decide) (by rw [← eno]; simp)
  have o0 := ko 0 _ rfl
  rw [Nat.mul_one, Nat.add_zero] at o0
  subst ep
  have lpo : (po.add no).block < V8.heap.size := by rw [block_of_add]; exact hpo
  have dnk : Rc anc V8 (.slice Sk4 (na + 1) sk4) (t.dn ++ [a]) := by have q := HRTk.out.dn; rw [← HDN.out, ← f1]; exact q
  obtain ⟨pd, epd, hpd, pd0, pd1⟩ := rc_elem (k := 3) (j := na) (x := a) dnk (fun _ => rfl) (by decide) (by rw [← ena]; simp)
  have d0 : V8.cell? (pd.add (na * 3)) = some (.int .i64 a.1) := pd0
  have d1 := pd1 0 _ rfl
  have d2 := pd1 1 _ rfl
  simp only [Nat.zero_add, Nat.reduceAdd] at d1 d2
  have dl : (pd.add (na * 3)).block < V8.heap.size := by rw [block_of_add]; exact hpd
  subst epd
  have hNE := ne_ans a.1 a.2.1 a.2.2
  have ac := HBA_8.out.cell
  have al := HBA_8.out.lt
  have HKI := Lib.hid ((HOTH.out i HIJ.out).trans HTI.out)
  clear eno ena em f1 f2 f4 mh1 mh2 mh3 mh4 mh5 mk1 mk2 mk3 mk4 mk5 mk6 gwh gah gbh gwk gak gbk hpk hph ooh ook ook2 hmx ko hpo pd0 pd1 dnk hpd
  obtain ⟨Px, Qx, cx, dx, Ax, ctx, usx, Bx, cox, Xx⟩ := HPH_8.out.x
  obtain ⟨ux, eux, Rx⟩ := Xx.t.at_ (j := i) (t := s0) HTI.out
  have rox := Xx.r
  have oox := Xx.o
  have xex := Xx.e
  obtain ⟨Sx0, sx0, qx0⟩ := Rx.st.slice
  obtain ⟨Sx1, sx1, qx1⟩ := Rx.lg.slice
  obtain ⟨Sx2, sx2, qx2⟩ := Rx.lf.slice
  obtain ⟨Sx3, sx3, qx3⟩ := Rx.pd.slice
  obtain ⟨Sx4, sx4, qx4⟩ := Rx.dn.slice
  have mx1 := Rx.lg.max
  have mx2 := Rx.lf.max
  have mx3 := Rx.pd.max
  have mx4 := Rx.dn.max
  have mx5 := oox.max
  have mx6 := rox.max
  unfold maxLen at mx1 mx2 mx3 mx4 mx5 mx6
  rw [show usx.length = h.th.length from Xx.t.1] at mx6
  have gwx := Rx.wt
  have gax := Rx.ba
  have gbx := Rx.be
  have HRTx := Lib.hid Rx
  clear Rx
  obtain ⟨ustx, ubax, ubex, ulgx, ulfx, updx, uwtx, udnx⟩ := ux
  simp only at qx0 qx1 qx2 qx3 qx4 gwx gax gbx
  subst qx0 qx1 qx2 qx3 qx4
  obtain ⟨px, rfl, hpx, k0x, k1x⟩ := rc_elem (k := 8) rox (fun _ => rfl) (by decide) eux
  have ax0 : V8.cell? (px.add (i * 8)) = some (.slice Sx0 s0.st.length sx0) := k0x
  have ax1 := k1x 0 _ rfl
  have ax2 := k1x 1 _ rfl
  have ax3 := k1x 2 _ rfl
  have ax4 := k1x 3 _ rfl
  have ax5 := k1x 4 _ rfl
  have ax6 := k1x 5 _ rfl
  have ax7 := k1x 6 _ rfl
  simp only [Nat.zero_add, Nat.reduceAdd] at ax1 ax2 ax3 ax4 ax5 ax6 ax7
  have bx11 : V8.cell? ⟨(V1.heap.size), 11, none⟩ = some (.slice (some px) h.th.length ctx) := by rw [HBH_8.out.cell, xex]; rfl
  have bx15 : V8.cell? ⟨(V1.heap.size), 15, none⟩ = some (.slice Bx h.od.length cox) := by rw [HBH_8.out.cell, xex]; rfl
  have lx := HBH_8.out.lt
  have lpx : (px.add (i * 8)).block < V8.heap.size := by rw [block_of_add]; exact hpx
  clear k0x k1x eux Xx rox xex
  obtain ⟨Py, Qy, cy, dy, Ay, cty, usy, By, coy, Xy⟩ := HPK_8.out.x
  obtain ⟨uy, euy, Ry⟩ := Xy.t.at_ (j := i) (t := s0) HKI.out
  have roy := Xy.r
  have ooy := Xy.o
  have xey := Xy.e
  obtain ⟨Sy0, sy0, qy0⟩ := Ry.st.slice
  obtain ⟨Sy1, sy1, qy1⟩ := Ry.lg.slice
  obtain ⟨Sy2, sy2, qy2⟩ := Ry.lf.slice
  obtain ⟨Sy3, sy3, qy3⟩ := Ry.pd.slice
  obtain ⟨Sy4, sy4, qy4⟩ := Ry.dn.slice
  have my1 := Ry.lg.max
  have my2 := Ry.lf.max
  have my3 := Ry.pd.max
  have my4 := Ry.dn.max
  have my5 := ooy.max
  have my6 := roy.max
  unfold maxLen at my1 my2 my3 my4 my5 my6
  rw [show usy.length = k.th.length from Xy.t.1] at my6
  have gwy := Ry.wt
  have gay := Ry.ba
  have gby := Ry.be
  have HRTy := Lib.hid Ry
  clear Ry
  obtain ⟨usty, ubay, ubey, ulgy, ulfy, updy, uwty, udny⟩ := uy
  simp only at qy0 qy1 qy2 qy3 qy4 gwy gay gby
  subst qy0 qy1 qy2 qy3 qy4
  obtain ⟨py, rfl, hpy, k0y, k1y⟩ := rc_elem (k := 8) roy (fun _ => rfl) (by decide) euy
  have ay0 : V8.cell? (py.add (i * 8)) = some (.slice Sy0 s0.st.length sy0) := k0y
  have ay1 := k1y 0 _ rfl
  have ay2 := k1y 1 _ rfl
  have ay3 := k1y 2 _ rfl
  have ay4 := k1y 3 _ rfl
  have ay5 := k1y 4 _ rfl
  have ay6 := k1y 5 _ rfl
  have ay7 := k1y 6 _ rfl
  simp only [Nat.zero_add, Nat.reduceAdd] at ay1 ay2 ay3 ay4 ay5 ay6 ay7
  have by11 : V8.cell? ⟨(wd.heap.size), 11, none⟩ = some (.slice (some py) k.th.length cty) := by rw [HBK_8.out.cell, xey]; rfl
  have by15 : V8.cell? ⟨(wd.heap.size), 15, none⟩ = some (.slice By k.od.length coy) := by rw [HBK_8.out.cell, xey]; rfl
  have ly := HBK_8.out.lt
  have lpy : (py.add (i * 8)).block < V8.heap.size := by rw [block_of_add]; exact hpy
  clear k0y k1y euy Xy roy xey
  rw [HLEN.out] at by11
  rw [ent] at bx11 by11
  have hi2 : i < nt := by rw [← ent]; exact HIL.out
  have HDX := Lib.hid HRTx.out.dn
  have HDY := Lib.hid HRTy.out.dn
  have HLX := Lib.hid HRTx.out.lf
  have HLY := Lib.hid HRTy.out.lf
  have eax : some px = some ph := by have q := bx11; rw [bh11] at q; injection q with q; injection q with q _ _; exact q.symm
  have eay : some py = some pk := by have q := by11; rw [bk11] at q; injection q with q; injection q with q _ _; exact q.symm
  injection eax with eax
  injection eay with eay
  subst eax eay
  clear bx11 bx15 by11 by15 lx ly mx1 mx2 mx3 mx4 mx5 mx6 my1 my2 my3 my4 my5 my6 gwx gax gbx gwy gay gby oox ooy hpx hpy mh6 ent
  generalize t.st.length = z1 at *
  generalize t'.st.length = z2 at *
  generalize t.lg.length = z4 at *
  generalize t'.lg.length = z5 at *
  generalize t.pd.length = z6 at *
  generalize t'.pd.length = z7 at *
  have q1 : decide ((nt : Int) ≤ (i : Int)) = false := decide_eq_false (by omega)
  have q2 : ((i : Int) == (j : Int)) = false := beq_eq_false_iff_ne.mpr (by have := HIJ.out; omega)
  have hi63 : i ≤ 9223372036854775807 := by omega
  go_upto_region 18 with fail
  go_quiet (fail)
  go_upto_region 22 with fail
  refine code_at (fun VZ hV => ?_)
  have kv : Up V8 VZ := by rw [hV]; (repeat (first | with_reducible exact Up.refl _ | with_reducible refine Up.alloc ?_ _ | with_reducible refine Up.drew ?_ | with_reducible refine Up.drewN ?_ _))
  clear hV
  have zbh11 := kv.cell bh11
  have zbk11 := kv.cell bk11
  have zax4 := kv.cell ax4
  have zax7 := kv.cell ax7
  have zay4 := kv.cell ay4
  have zay7 := kv.cell ay7
  have lzh := HBH_8.out.up kv |>.lt
  have lzk := HBK_8.out.up kv |>.lt
  have HAN := Lib.hid (fun m => quietW (ranss_yes _ _ s0.dn (VZ.drewN m) ((HDY.out.up kv).up ((Up.refl VZ).drewN m)) ((HDX.out.up kv).up ((Up.refl VZ).drewN m))))
  have HOP := Lib.hid (fun m => quietW (rops_yes _ _ s0.lf (VZ.drewN m) ((HLY.out.up kv).up ((Up.refl VZ).drewN m)) ((HLX.out.up kv).up ((Up.refl VZ).drewN m))))
  have HUZ := Lib.hid (HU_8.out.trans kv)
  clear kv bh11 bk11 ax0 ax1 ax2 ax3 ax4 ax5 ax6 ax7 ay0 ay1 ay2 ay3 ay4 ay5 ay6 ay7 ah0 ah1 ah2 ah3 ah4 ah5 ah6 ah7 ak0 ak1 ak2 ak3 ak4 ak5 ak6 ak7 o0 d0 d1 d2 bh15 bk15
  generalize s0.dn.length = y1 at *
  generalize s0.lf.length = y2 at *
  go_quiet ((first | (go_at_call 23; with_reducible exact HAN.out _) | (go_at_call 24; with_reducible exact HOP.out _)))
  go_wp2
  go_ret
  exact ⟨rfl, by (repeat (first | with_reducible exact HUZ.out | with_reducible refine Up.drewN ?_ _ | with_reducible refine Up.drew ?_))⟩
set_option maxRecDepth 100000 in
set_option maxHeartbeats 16000000 in
theorem walk_in0neg (C G : Array Value) (h : Hp) (j : Nat) (t : Th) (a : An) (oth : Int) (w : World) (hs : C.size = 17) (hone : C.all (·.oneCell') = true) (hi : In22 C G (j : Int) a oth) (HFEW : Hid (∀ W, Up w W → Calls Tryz.prog 10 #[.agg C] W fun e w' => e = .returned (.bool true) ∧ Up W w')) (hR : HpR w (.agg C) h) (hF : HpF h) (ht : h.th[j]? = some t) (hj0 : j < h.th.length) (hlf : t.lf.length = 0) (hoc : oth < 0) :
    Calls Tryz.prog 8 #[.agg G] w fun e w' => e = .returned (.bool true) ∧ Up w w' := by
  have HI := Lib.hid hi
  have HONE := Lib.hid hone
  have HP0 := Lib.hid (fun W (u : Up w W) => hR.up u)
  have HDO := Lib.hid (fun W (u : Up w W) => answer_c (hR.up u) hF a (j : Int))
  have HTH := Lib.hid ht
  have HJ := Lib.hid hj0
  clear hi hone hR hF hj0
  have e0 : answered h (j : Int) a = ansH h j t a := by
    unfold answered
    rw [if_pos ⟨Int.natCast_nonneg _, by have := HJ.out; omega⟩, Int.toNat_natCast, ht]
  rw [e0] at HDO
  clear e0
  obtain ⟨k, ek⟩ : ∃ k, ansH h j t a = k := ⟨_, rfl⟩
  rw [ek] at HDO
  have HTK := Lib.hid (show k.th[j]? = some { t with dn := t.dn ++ [a], lf := t.lf.drop 1 } by rw [← ek]; show (h.th.set j _)[j]? = _; rw [List.getElem?_set_self HJ.out])
  have HLEN := Lib.hid (show k.th.length = h.th.length by rw [← ek]; show (h.th.set j _).length = _; rw [List.length_set])
  have HOD := Lib.hid (show k.od = h.od ++ [(j : Int)] by rw [← ek]; rfl)
  have HOTH := Lib.hid (show ∀ i, i ≠ j → k.th[i]? = h.th[i]? by rw [← ek]; intro i hi; show (h.th.set j _)[i]? = _; rw [List.getElem?_set_ne (fun q => hi q.symm)])
  clear ek ht
  obtain ⟨t', et'⟩ : ∃ t' : Th, { t with dn := t.dn ++ [a], lf := t.lf.drop 1 } = t' := ⟨_, rfl⟩
  rw [et'] at HTK
  have HDN := Lib.hid (show t'.dn = t.dn ++ [a] by rw [← et'])
  have HLF := Lib.hid (show t'.lf.length = t.lf.length - 1 by rw [← et']; show (t.lf.drop 1).length = _; rw [List.length_drop])
  clear et'
  go_enter Tryz.func8, Tryz.ntmps8
  go_wp2_with (with_reducible refine halt_at (o := ⟨_, Op.load 32 _, _, _, _, _⟩) ?_)
  unfold Halt
  refine list_at (fun V1 hV => ?_)
  have kv : Up w V1 := by rw [hV]; (repeat (first | with_reducible exact Up.refl _ | with_reducible refine Up.alloc ?_ _ | with_reducible refine Up.drew ?_ | with_reducible refine Up.drewN ?_ _))
  have nbI : Blk V1 (w.heap.size) 69 G := by rw [hV]; (repeat (first | with_reducible exact Blk.new' _ (by simp) _ _ | with_reducible exact Blk.new _ _ _ | with_reducible refine Blk.alloc ?_ _ | with_reducible refine Blk.drew ?_))
  clear hV
  have HU_1 := Lib.hid (kv)
  clear kv
  have HBI_1 := Lib.hid nbI
  clear nbI
  have hra : V1.rangeAt (w.heap.size) 0 C.toList := fun i v q => by
    rw [Nat.zero_add, HBI_1.out.cell]
    exact HI.out.r i v q
  have HRA := Lib.hid hra
  clear hra
  have j17 : V1.cell? ⟨(w.heap.size), 17, none⟩ = some (.int .i64 (j : Int)) := by rw [HBI_1.out.cell]; exact HI.out.t
  have j18 : V1.cell? ⟨(w.heap.size), 18, none⟩ = some (.int .i64 a.1) := by rw [HBI_1.out.cell]; exact HI.out.a0
  have j19 : V1.cell? ⟨(w.heap.size), 19, none⟩ = some (.int .u64 a.2.1) := by rw [HBI_1.out.cell]; exact HI.out.a1
  have j20 : V1.cell? ⟨(w.heap.size), 20, none⟩ = some (.bool a.2.2) := by rw [HBI_1.out.cell]; exact HI.out.a2
  have j21 : V1.cell? ⟨(w.heap.size), 21, none⟩ = some (.int .i64 oth) := by rw [HBI_1.out.cell]; exact HI.out.o
  have jl := HBI_1.out.lt
  refine heap_mid (by rfl) _ rfl rfl HRA.out hs ?_
  go_wp2_with (with_reducible refine halt_at (o := ⟨_, Op.store 32 _ _, _, _, _, _⟩) ?_)
  unfold Halt
  refine heap_new (C := C) (by rfl) _ _ rfl rfl rfl rfl (by first | rfl | simp) hs rfl HONE.out ?_
  simp only [put_none]
  refine list_at (fun V2 hV => ?_)
  have kv : Up V1 V2 := by rw [hV]; (repeat (first | with_reducible exact Up.refl _ | with_reducible refine Up.alloc ?_ _ | with_reducible refine Up.drew ?_ | with_reducible refine Up.drewN ?_ _))
  have nbH : Blk V2 (V1.heap.size) 32 C := by rw [hV]; (repeat (first | with_reducible exact Blk.new' _ (by simp) _ _ | with_reducible exact Blk.new _ _ _ | with_reducible refine Blk.alloc ?_ _ | with_reducible refine Blk.drew ?_))
  have kv2 := kv
  clear hV
  have HBI_2 := Lib.hid (HBI_1.out.up kv)
  have HU_2 := Lib.hid (HU_1.out.trans kv)
  clear HBI_1 HU_1
  clear kv
  have HBH_2 := Lib.hid nbH
  clear nbH
  have y17 := kv2.cell j17
  have y18 := kv2.cell j18
  have y19 := kv2.cell j19
  have y20 := kv2.cell j20
  have y21 := kv2.cell j21
  have yl := HBI_2.out.lt
  clear j17 j18 j19 j20 j21 jl kv2 HRA
  go_wp2_with (fail)
  clear y17 y18 y19 y20 y21 yl
  refine calls_at (fun V3 hV => ?_)
  have kv : Up V2 V3 := by rw [hV]; (repeat (first | with_reducible exact Up.refl _ | with_reducible refine Up.alloc ?_ _ | with_reducible refine Up.drew ?_ | with_reducible refine Up.drewN ?_ _))
  have nbA : Blk V3 (V2.heap.size) 56 #[.int .i64 a.1, .int .u64 a.2.1, .bool a.2.2] := by rw [hV]; (repeat (first | with_reducible exact Blk.new' _ (by simp) _ _ | with_reducible exact Blk.new _ _ _ | with_reducible refine Blk.alloc ?_ _ | with_reducible refine Blk.drew ?_))
  clear hV
  have HBI_3 := Lib.hid (HBI_2.out.up kv)
  have HBH_3 := Lib.hid (HBH_2.out.up kv)
  have HU_3 := Lib.hid (HU_2.out.trans kv)
  clear HBI_2 HBH_2 HU_2
  clear kv
  have HBA_3 := Lib.hid nbA
  clear nbA
  refine (shown17 V3).mono ?_
  rintro e w4 ⟨rfl, k3⟩
  have HBI_4 := Lib.hid (HBI_3.out.up k3)
  have HBH_4 := Lib.hid (HBH_3.out.up k3)
  have HBA_4 := Lib.hid (HBA_3.out.up k3)
  have HU_4 := Lib.hid (HU_3.out.trans k3)
  clear HBI_3 HBH_3 HBA_3 HU_3
  clear k3
  go_wp2_with (with_reducible refine halt_at (o := ⟨_, Op.load 32 _, _, _, _, _⟩) ?_)
  unfold Halt
  refine heap_load (by rfl) _ rfl rfl HBH_4.out hs ?_
  go_wp2_with (fail)
  refine calls_at (fun V5 hV => ?_)
  have kv : Up w4 V5 := by rw [hV]; (repeat (first | with_reducible exact Up.refl _ | with_reducible refine Up.alloc ?_ _ | with_reducible refine Up.drew ?_ | with_reducible refine Up.drewN ?_ _))
  clear hV
  have HBI_5 := Lib.hid (HBI_4.out.up kv)
  have HBH_5 := Lib.hid (HBH_4.out.up kv)
  have HBA_5 := Lib.hid (HBA_4.out.up kv)
  have HU_5 := Lib.hid (HU_4.out.trans kv)
  clear HBI_4 HBH_4 HBA_4 HU_4
  clear kv
  refine (HFEW.out V5 HU_5.out).mono ?_
  rintro e w6 ⟨rfl, k5⟩
  have HBI_6 := Lib.hid (HBI_5.out.up k5)
  have HBH_6 := Lib.hid (HBH_5.out.up k5)
  have HBA_6 := Lib.hid (HBA_5.out.up k5)
  have HU_6 := Lib.hid (HU_5.out.trans k5)
  clear HBI_5 HBH_5 HBA_5 HU_5
  clear k5
  go_wp2_with (with_reducible refine halt_at (o := ⟨_, Op.load 32 _, _, _, _, _⟩) ?_)
  unfold Halt
  refine heap_load (by rfl) _ rfl rfl HBH_6.out hs ?_
  have ac := HBA_6.out.cell
  have al := HBA_6.out.lt
  have HQ := Lib.hid (HDO.out _ HU_6.out)
  go_wp2_with (fail)
  refine HQ.out.mono ?_
  rintro e wd ⟨K, rfl, hk, kd⟩
  clear ac al
  have HBI_7 := Lib.hid (HBI_6.out.up kd)
  have HBH_7 := Lib.hid (HBH_6.out.up kd)
  have HBA_7 := Lib.hid (HBA_6.out.up kd)
  have HU_7 := Lib.hid (HU_6.out.trans kd)
  clear HBI_6 HBH_6 HBA_6 HU_6
  have HPK_7 := Lib.hid hk
  have HPH_7 := Lib.hid (HP0.out _ HU_7.out)
  clear kd HQ hk HP0 HDO
  go_wp2_with (with_reducible refine halt_at (o := ⟨_, Op.store 32 _ _, _, _, _, _⟩) ?_)
  unfold Halt
  refine heap_new (C := K) (by rfl) _ _ rfl rfl rfl rfl (by first | rfl | simp) HPK_7.out.size rfl HPK_7.out.one ?_
  simp only [put_none]
  refine list_at (fun V8 hV => ?_)
  have kv : Up wd V8 := by rw [hV]; (repeat (first | with_reducible exact Up.refl _ | with_reducible refine Up.alloc ?_ _ | with_reducible refine Up.drew ?_ | with_reducible refine Up.drewN ?_ _))
  have nbK : Blk V8 (wd.heap.size) 32 K := by rw [hV]; (repeat (first | with_reducible exact Blk.new' _ (by simp) _ _ | with_reducible exact Blk.new _ _ _ | with_reducible refine Blk.alloc ?_ _ | with_reducible refine Blk.drew ?_))
  clear hV
  have HBI_8 := Lib.hid (HBI_7.out.up kv)
  have HBH_8 := Lib.hid (HBH_7.out.up kv)
  have HBA_8 := Lib.hid (HBA_7.out.up kv)
  have HPK_8 := Lib.hid (HPK_7.out.up kv)
  have HPH_8 := Lib.hid (HPH_7.out.up kv)
  have HU_8 := Lib.hid (HU_7.out.trans kv)
  clear HBI_7 HBH_7 HBA_7 HPK_7 HPH_7 HU_7
  clear kv
  have HBK_8 := Lib.hid nbK
  clear nbK
  obtain ⟨Ph, Qh, ch, dh, Ah, cth, ush, Bh, coh, Xh⟩ := HPH_8.out.x
  obtain ⟨uh, euh, Rh⟩ := Xh.t.at_ (j := j) (t := t) HTH.out
  have roh := Xh.r
  have ooh := Xh.o
  have xeh := Xh.e
  obtain ⟨Sh0, sh0, qh0⟩ := Rh.st.slice
  obtain ⟨Sh1, sh1, qh1⟩ := Rh.lg.slice
  obtain ⟨Sh2, sh2, qh2⟩ := Rh.lf.slice
  obtain ⟨Sh3, sh3, qh3⟩ := Rh.pd.slice
  obtain ⟨Sh4, sh4, qh4⟩ := Rh.dn.slice
  have mh1 := Rh.lg.max
  have mh2 := Rh.lf.max
  have mh3 := Rh.pd.max
  have mh4 := Rh.dn.max
  have mh5 := ooh.max
  have mh6 := roh.max
  unfold maxLen at mh1 mh2 mh3 mh4 mh5 mh6
  rw [show ush.length = h.th.length from Xh.t.1] at mh6
  have gwh := Rh.wt
  have gah := Rh.ba
  have gbh := Rh.be
  have HRTh := Lib.hid Rh
  clear Rh
  obtain ⟨usth, ubah, ubeh, ulgh, ulfh, updh, uwth, udnh⟩ := uh
  simp only at qh0 qh1 qh2 qh3 qh4 gwh gah gbh
  subst qh0 qh1 qh2 qh3 qh4
  obtain ⟨ph, rfl, hph, k0h, k1h⟩ := rc_elem (k := 8) roh (fun _ => rfl) (by decide) euh
  have ah0 : V8.cell? (ph.add (j * 8)) = some (.slice Sh0 t.st.length sh0) := k0h
  have ah1 := k1h 0 _ rfl
  have ah2 := k1h 1 _ rfl
  have ah3 := k1h 2 _ rfl
  have ah4 := k1h 3 _ rfl
  have ah5 := k1h 4 _ rfl
  have ah6 := k1h 5 _ rfl
  have ah7 := k1h 6 _ rfl
  simp only [Nat.zero_add, Nat.reduceAdd] at ah1 ah2 ah3 ah4 ah5 ah6 ah7
  have bh11 : V8.cell? ⟨(V1.heap.size), 11, none⟩ = some (.slice (some ph) h.th.length cth) := by rw [HBH_8.out.cell, xeh]; rfl
  have bh15 : V8.cell? ⟨(V1.heap.size), 15, none⟩ = some (.slice Bh h.od.length coh) := by rw [HBH_8.out.cell, xeh]; rfl
  have lh := HBH_8.out.lt
  have lph : (ph.add (j * 8)).block < V8.heap.size := by rw [block_of_add]; exact hph
  clear k0h k1h euh Xh roh xeh
  obtain ⟨Pk, Qk, ck, dk, Ak, ctk, usk, Bk, cok, Xk⟩ := HPK_8.out.x
  obtain ⟨uk, euk, Rk⟩ := Xk.t.at_ (j := j) (t := t') HTK.out
  have rok := Xk.r
  have ook := Xk.o
  have xek := Xk.e
  obtain ⟨Sk0, sk0, qk0⟩ := Rk.st.slice
  obtain ⟨Sk1, sk1, qk1⟩ := Rk.lg.slice
  obtain ⟨Sk2, sk2, qk2⟩ := Rk.lf.slice
  obtain ⟨Sk3, sk3, qk3⟩ := Rk.pd.slice
  obtain ⟨Sk4, sk4, qk4⟩ := Rk.dn.slice
  have mk1 := Rk.lg.max
  have mk2 := Rk.lf.max
  have mk3 := Rk.pd.max
  have mk4 := Rk.dn.max
  have mk5 := ook.max
  have mk6 := rok.max
  unfold maxLen at mk1 mk2 mk3 mk4 mk5 mk6
  rw [show usk.length = k.th.length from Xk.t.1] at mk6
  have gwk := Rk.wt
  have gak := Rk.ba
  have gbk := Rk.be
  have HRTk := Lib.hid Rk
  clear Rk
  obtain ⟨ustk, ubak, ubek, ulgk, ulfk, updk, uwtk, udnk⟩ := uk
  simp only at qk0 qk1 qk2 qk3 qk4 gwk gak gbk
  subst qk0 qk1 qk2 qk3 qk4
  obtain ⟨pk, rfl, hpk, k0k, k1k⟩ := rc_elem (k := 8) rok (fun _ => rfl) (by decide) euk
  have ak0 : V8.cell? (pk.add (j * 8)) = some (.slice Sk0 t'.st.length sk0) := k0k
  have ak1 := k1k 0 _ rfl
  have ak2 := k1k 1 _ rfl
  have ak3 := k1k 2 _ rfl
  have ak4 := k1k 3 _ rfl
  have ak5 := k1k 4 _ rfl
  have ak6 := k1k 5 _ rfl
  have ak7 := k1k 6 _ rfl
  simp only [Nat.zero_add, Nat.reduceAdd] at ak1 ak2 ak3 ak4 ak5 ak6 ak7
  have bk11 : V8.cell? ⟨(wd.heap.size), 11, none⟩ = some (.slice (some pk) k.th.length ctk) := by rw [HBK_8.out.cell, xek]; rfl
  have bk15 : V8.cell? ⟨(wd.heap.size), 15, none⟩ = some (.slice Bk k.od.length cok) := by rw [HBK_8.out.cell, xek]; rfl
  have lk := HBK_8.out.lt
  have lpk : (pk.add (j * 8)).block < V8.heap.size := by rw [block_of_add]; exact hpk
  clear k0k k1k euk Xk rok xek
  rw [HLEN.out] at bk11
  obtain ⟨na, ena⟩ : ∃ n, t.dn.length = n := ⟨_, rfl⟩
  obtain ⟨no, eno⟩ : ∃ n, h.od.length = n := ⟨_, rfl⟩
  obtain ⟨nt, ent⟩ : ∃ n, h.th.length = n := ⟨_, rfl⟩
  have em : t.lf.length = 0 := hlf
  have f1 : t'.dn.length = na + 1 := by rw [HDN.out, List.length_append, ena]; rfl
  have f2 : t'.lf.length = 0 := by rw [HLF.out, em]
  have f4 : k.od.length = no + 1 := by rw [HOD.out, List.length_append, eno]; rfl
  rw [ena] at ah7
  rw [em] at ah4
  rw [eno] at bh15
  rw [ent] at bh11 bk11
  rw [f1] at ak7
  rw [f2] at ak4
  rw [f4] at bk15
  have hj : j < nt := by rw [← ent]; exact HJ.out
  have n5 : nt ≤ 9223372036854775807 := by rw [ent] at mh6; omega
  have ook2 := ook
  rw [f4, HOD.out] at ook2
  have hmx := mk5
  rw [f4] at hmx
  have n1 : no + 1 ≤ 9223372036854775807 := by omega
  have n2 : na + 1 ≤ 9223372036854775807 := by rw [f1] at mk4; omega
  have n3 : (0 : Nat) ≤ 9223372036854775807 := by rw [em] at mh2; omega
  obtain ⟨po, ep, hpo, ko⟩ := Rc.at_ (k := 1) (j := no) (x := (j : Int)) ook2 (fun _ => rfl) (by decide) (by rw [← eno]; simp)
  have o0 := ko 0 _ rfl
  rw [Nat.mul_one, Nat.add_zero] at o0
  subst ep
  have lpo : (po.add no).block < V8.heap.size := by rw [block_of_add]; exact hpo
  have dnk : Rc anc V8 (.slice Sk4 (na + 1) sk4) (t.dn ++ [a]) := by have q := HRTk.out.dn; rw [← HDN.out, ← f1]; exact q
  obtain ⟨pd, epd, hpd, pd0, pd1⟩ := rc_elem (k := 3) (j := na) (x := a) dnk (fun _ => rfl) (by decide) (by rw [← ena]; simp)
  have d0 : V8.cell? (pd.add (na * 3)) = some (.int .i64 a.1) := pd0
  have d1 := pd1 0 _ rfl
  have d2 := pd1 1 _ rfl
  simp only [Nat.zero_add, Nat.reduceAdd] at d1 d2
  have dl : (pd.add (na * 3)).block < V8.heap.size := by rw [block_of_add]; exact hpd
  subst epd
  have hNE := ne_ans a.1 a.2.1 a.2.2
  have ac := HBA_8.out.cell
  have al := HBA_8.out.lt
  clear eno ena ent em f1 f2 f4 mh1 mh2 mh3 mh4 mh5 mh6 mk1 mk2 mk3 mk4 mk5 mk6 gwh gah gbh gwk gak gbk hpk hph ooh ook ook2 hmx ko hpo pd0 pd1 dnk hpd
  generalize t.st.length = z1 at *
  generalize t'.st.length = z2 at *
  generalize t.lg.length = z4 at *
  generalize t'.lg.length = z5 at *
  generalize t.pd.length = z6 at *
  generalize t'.pd.length = z7 at *
  have q1 : decide (oth < 0) = true := decide_eq_true hoc
  clear hoc
  go_upto_region 18 with fail
  go_quiet (fail)
  go_wp2
  go_ret
  exact ⟨rfl, (by (repeat (first | with_reducible exact HU_8.out | with_reducible refine Up.alloc ?_ _ | with_reducible refine Up.drew ?_ | with_reducible refine Up.drewN ?_ _)))⟩
set_option maxRecDepth 100000 in
set_option maxHeartbeats 16000000 in
theorem walk_in0big (C G : Array Value) (h : Hp) (j : Nat) (t : Th) (a : An) (oth : Int) (w : World) (hs : C.size = 17) (hone : C.all (·.oneCell') = true) (hi : In22 C G (j : Int) a oth) (HFEW : Hid (∀ W, Up w W → Calls Tryz.prog 10 #[.agg C] W fun e w' => e = .returned (.bool true) ∧ Up W w')) (hR : HpR w (.agg C) h) (hF : HpF h) (ht : h.th[j]? = some t) (hj0 : j < h.th.length) (hlf : t.lf.length = 0) (hoc : 0 ≤ oth ∧ (h.th.length : Int) ≤ oth) :
    Calls Tryz.prog 8 #[.agg G] w fun e w' => e = .returned (.bool true) ∧ Up w w' := by
  have HI := Lib.hid hi
  have HONE := Lib.hid hone
  have HP0 := Lib.hid (fun W (u : Up w W) => hR.up u)
  have HDO := Lib.hid (fun W (u : Up w W) => answer_c (hR.up u) hF a (j : Int))
  have HTH := Lib.hid ht
  have HJ := Lib.hid hj0
  clear hi hone hR hF hj0
  have e0 : answered h (j : Int) a = ansH h j t a := by
    unfold answered
    rw [if_pos ⟨Int.natCast_nonneg _, by have := HJ.out; omega⟩, Int.toNat_natCast, ht]
  rw [e0] at HDO
  clear e0
  obtain ⟨k, ek⟩ : ∃ k, ansH h j t a = k := ⟨_, rfl⟩
  rw [ek] at HDO
  have HTK := Lib.hid (show k.th[j]? = some { t with dn := t.dn ++ [a], lf := t.lf.drop 1 } by rw [← ek]; show (h.th.set j _)[j]? = _; rw [List.getElem?_set_self HJ.out])
  have HLEN := Lib.hid (show k.th.length = h.th.length by rw [← ek]; show (h.th.set j _).length = _; rw [List.length_set])
  have HOD := Lib.hid (show k.od = h.od ++ [(j : Int)] by rw [← ek]; rfl)
  have HOTH := Lib.hid (show ∀ i, i ≠ j → k.th[i]? = h.th[i]? by rw [← ek]; intro i hi; show (h.th.set j _)[i]? = _; rw [List.getElem?_set_ne (fun q => hi q.symm)])
  clear ek ht
  obtain ⟨t', et'⟩ : ∃ t' : Th, { t with dn := t.dn ++ [a], lf := t.lf.drop 1 } = t' := ⟨_, rfl⟩
  rw [et'] at HTK
  have HDN := Lib.hid (show t'.dn = t.dn ++ [a] by rw [← et'])
  have HLF := Lib.hid (show t'.lf.length = t.lf.length - 1 by rw [← et']; show (t.lf.drop 1).length = _; rw [List.length_drop])
  clear et'
  go_enter Tryz.func8, Tryz.ntmps8
  go_wp2_with (with_reducible refine halt_at (o := ⟨_, Op.load 32 _, _, _, _, _⟩) ?_)
  unfold Halt
  refine list_at (fun V1 hV => ?_)
  have kv : Up w V1 := by rw [hV]; (repeat (first | with_reducible exact Up.refl _ | with_reducible refine Up.alloc ?_ _ | with_reducible refine Up.drew ?_ | with_reducible refine Up.drewN ?_ _))
  have nbI : Blk V1 (w.heap.size) 69 G := by rw [hV]; (repeat (first | with_reducible exact Blk.new' _ (by simp) _ _ | with_reducible exact Blk.new _ _ _ | with_reducible refine Blk.alloc ?_ _ | with_reducible refine Blk.drew ?_))
  clear hV
  have HU_1 := Lib.hid (kv)
  clear kv
  have HBI_1 := Lib.hid nbI
  clear nbI
  have hra : V1.rangeAt (w.heap.size) 0 C.toList := fun i v q => by
    rw [Nat.zero_add, HBI_1.out.cell]
    exact HI.out.r i v q
  have HRA := Lib.hid hra
  clear hra
  have j17 : V1.cell? ⟨(w.heap.size), 17, none⟩ = some (.int .i64 (j : Int)) := by rw [HBI_1.out.cell]; exact HI.out.t
  have j18 : V1.cell? ⟨(w.heap.size), 18, none⟩ = some (.int .i64 a.1) := by rw [HBI_1.out.cell]; exact HI.out.a0
  have j19 : V1.cell? ⟨(w.heap.size), 19, none⟩ = some (.int .u64 a.2.1) := by rw [HBI_1.out.cell]; exact HI.out.a1
  have j20 : V1.cell? ⟨(w.heap.size), 20, none⟩ = some (.bool a.2.2) := by rw [HBI_1.out.cell]; exact HI.out.a2
  have j21 : V1.cell? ⟨(w.heap.size), 21, none⟩ = some (.int .i64 oth) := by rw [HBI_1.out.cell]; exact HI.out.o
  have jl := HBI_1.out.lt
  refine heap_mid (by rfl) _ rfl rfl HRA.out hs ?_
  go_wp2_with (with_reducible refine halt_at (o := ⟨_, Op.store 32 _ _, _, _, _, _⟩) ?_)
  unfold Halt
  refine heap_new (C := C) (by rfl) _ _ rfl rfl rfl rfl (by first | rfl | simp) hs rfl HONE.out ?_
  simp only [put_none]
  refine list_at (fun V2 hV => ?_)
  have kv : Up V1 V2 := by rw [hV]; (repeat (first | with_reducible exact Up.refl _ | with_reducible refine Up.alloc ?_ _ | with_reducible refine Up.drew ?_ | with_reducible refine Up.drewN ?_ _))
  have nbH : Blk V2 (V1.heap.size) 32 C := by rw [hV]; (repeat (first | with_reducible exact Blk.new' _ (by simp) _ _ | with_reducible exact Blk.new _ _ _ | with_reducible refine Blk.alloc ?_ _ | with_reducible refine Blk.drew ?_))
  have kv2 := kv
  clear hV
  have HBI_2 := Lib.hid (HBI_1.out.up kv)
  have HU_2 := Lib.hid (HU_1.out.trans kv)
  clear HBI_1 HU_1
  clear kv
  have HBH_2 := Lib.hid nbH
  clear nbH
  have y17 := kv2.cell j17
  have y18 := kv2.cell j18
  have y19 := kv2.cell j19
  have y20 := kv2.cell j20
  have y21 := kv2.cell j21
  have yl := HBI_2.out.lt
  clear j17 j18 j19 j20 j21 jl kv2 HRA
  go_wp2_with (fail)
  clear y17 y18 y19 y20 y21 yl
  refine calls_at (fun V3 hV => ?_)
  have kv : Up V2 V3 := by rw [hV]; (repeat (first | with_reducible exact Up.refl _ | with_reducible refine Up.alloc ?_ _ | with_reducible refine Up.drew ?_ | with_reducible refine Up.drewN ?_ _))
  have nbA : Blk V3 (V2.heap.size) 56 #[.int .i64 a.1, .int .u64 a.2.1, .bool a.2.2] := by rw [hV]; (repeat (first | with_reducible exact Blk.new' _ (by simp) _ _ | with_reducible exact Blk.new _ _ _ | with_reducible refine Blk.alloc ?_ _ | with_reducible refine Blk.drew ?_))
  clear hV
  have HBI_3 := Lib.hid (HBI_2.out.up kv)
  have HBH_3 := Lib.hid (HBH_2.out.up kv)
  have HU_3 := Lib.hid (HU_2.out.trans kv)
  clear HBI_2 HBH_2 HU_2
  clear kv
  have HBA_3 := Lib.hid nbA
  clear nbA
  refine (shown17 V3).mono ?_
  rintro e w4 ⟨rfl, k3⟩
  have HBI_4 := Lib.hid (HBI_3.out.up k3)
  have HBH_4 := Lib.hid (HBH_3.out.up k3)
  have HBA_4 := Lib.hid (HBA_3.out.up k3)
  have HU_4 := Lib.hid (HU_3.out.trans k3)
  clear HBI_3 HBH_3 HBA_3 HU_3
  clear k3
  go_wp2_with (with_reducible refine halt_at (o := ⟨_, Op.load 32 _, _, _, _, _⟩) ?_)
  unfold Halt
  refine heap_load (by rfl) _ rfl rfl HBH_4.out hs ?_
  go_wp2_with (fail)
  refine calls_at (fun V5 hV => ?_)
  have kv : Up w4 V5 := by rw [hV]; (repeat (first | with_reducible exact Up.refl _ | with_reducible refine Up.alloc ?_ _ | with_reducible refine Up.drew ?_ | with_reducible refine Up.drewN ?_ _))
  clear hV
  have HBI_5 := Lib.hid (HBI_4.out.up kv)
  have HBH_5 := Lib.hid (HBH_4.out.up kv)
  have HBA_5 := Lib.hid (HBA_4.out.up kv)
  have HU_5 := Lib.hid (HU_4.out.trans kv)
  clear HBI_4 HBH_4 HBA_4 HU_4
  clear kv
  refine (HFEW.out V5 HU_5.out).mono ?_
  rintro e w6 ⟨rfl, k5⟩
  have HBI_6 := Lib.hid (HBI_5.out.up k5)
  have HBH_6 := Lib.hid (HBH_5.out.up k5)
  have HBA_6 := Lib.hid (HBA_5.out.up k5)
  have HU_6 := Lib.hid (HU_5.out.trans k5)
  clear HBI_5 HBH_5 HBA_5 HU_5
  clear k5
  go_wp2_with (with_reducible refine halt_at (o := ⟨_, Op.load 32 _, _, _, _, _⟩) ?_)
  unfold Halt
  refine heap_load (by rfl) _ rfl rfl HBH_6.out hs ?_
  have ac := HBA_6.out.cell
  have al := HBA_6.out.lt
  have HQ := Lib.hid (HDO.out _ HU_6.out)
  go_wp2_with (fail)
  refine HQ.out.mono ?_
  rintro e wd ⟨K, rfl, hk, kd⟩
  clear ac al
  have HBI_7 := Lib.hid (HBI_6.out.up kd)
  have HBH_7 := Lib.hid (HBH_6.out.up kd)
  have HBA_7 := Lib.hid (HBA_6.out.up kd)
  have HU_7 := Lib.hid (HU_6.out.trans kd)
  clear HBI_6 HBH_6 HBA_6 HU_6
  have HPK_7 := Lib.hid hk
  have HPH_7 := Lib.hid (HP0.out _ HU_7.out)
  clear kd HQ hk HP0 HDO
  go_wp2_with (with_reducible refine halt_at (o := ⟨_, Op.store 32 _ _, _, _, _, _⟩) ?_)
  unfold Halt
  refine heap_new (C := K) (by rfl) _ _ rfl rfl rfl rfl (by first | rfl | simp) HPK_7.out.size rfl HPK_7.out.one ?_
  simp only [put_none]
  refine list_at (fun V8 hV => ?_)
  have kv : Up wd V8 := by rw [hV]; (repeat (first | with_reducible exact Up.refl _ | with_reducible refine Up.alloc ?_ _ | with_reducible refine Up.drew ?_ | with_reducible refine Up.drewN ?_ _))
  have nbK : Blk V8 (wd.heap.size) 32 K := by rw [hV]; (repeat (first | with_reducible exact Blk.new' _ (by simp) _ _ | with_reducible exact Blk.new _ _ _ | with_reducible refine Blk.alloc ?_ _ | with_reducible refine Blk.drew ?_))
  clear hV
  have HBI_8 := Lib.hid (HBI_7.out.up kv)
  have HBH_8 := Lib.hid (HBH_7.out.up kv)
  have HBA_8 := Lib.hid (HBA_7.out.up kv)
  have HPK_8 := Lib.hid (HPK_7.out.up kv)
  have HPH_8 := Lib.hid (HPH_7.out.up kv)
  have HU_8 := Lib.hid (HU_7.out.trans kv)
  clear HBI_7 HBH_7 HBA_7 HPK_7 HPH_7 HU_7
  clear kv
  have HBK_8 := Lib.hid nbK
  clear nbK
  obtain ⟨Ph, Qh, ch, dh, Ah, cth, ush, Bh, coh, Xh⟩ := HPH_8.out.x
  obtain ⟨uh, euh, Rh⟩ := Xh.t.at_ (j := j) (t := t) HTH.out
  have roh := Xh.r
  have ooh := Xh.o
  have xeh := Xh.e
  obtain ⟨Sh0, sh0, qh0⟩ := Rh.st.slice
  obtain ⟨Sh1, sh1, qh1⟩ := Rh.lg.slice
  obtain ⟨Sh2, sh2, qh2⟩ := Rh.lf.slice
  obtain ⟨Sh3, sh3, qh3⟩ := Rh.pd.slice
  obtain ⟨Sh4, sh4, qh4⟩ := Rh.dn.slice
  have mh1 := Rh.lg.max
  have mh2 := Rh.lf.max
  have mh3 := Rh.pd.max
  have mh4 := Rh.dn.max
  have mh5 := ooh.max
  have mh6 := roh.max
  unfold maxLen at mh1 mh2 mh3 mh4 mh5 mh6
  rw [show ush.length = h.th.length from Xh.t.1] at mh6
  have gwh := Rh.wt
  have gah := Rh.ba
  have gbh := Rh.be
  have HRTh := Lib.hid Rh
  clear Rh
  obtain ⟨usth, ubah, ubeh, ulgh, ulfh, updh, uwth, udnh⟩ := uh
  simp only at qh0 qh1 qh2 qh3 qh4 gwh gah gbh
  subst qh0 qh1 qh2 qh3 qh4
  obtain ⟨ph, rfl, hph, k0h, k1h⟩ := rc_elem (k := 8) roh (fun _ => rfl) (by decide) euh
  have ah0 : V8.cell? (ph.add (j * 8)) = some (.slice Sh0 t.st.length sh0) := k0h
  have ah1 := k1h 0 _ rfl
  have ah2 := k1h 1 _ rfl
  have ah3 := k1h 2 _ rfl
  have ah4 := k1h 3 _ rfl
  have ah5 := k1h 4 _ rfl
  have ah6 := k1h 5 _ rfl
  have ah7 := k1h 6 _ rfl
  simp only [Nat.zero_add, Nat.reduceAdd] at ah1 ah2 ah3 ah4 ah5 ah6 ah7
  have bh11 : V8.cell? ⟨(V1.heap.size), 11, none⟩ = some (.slice (some ph) h.th.length cth) := by rw [HBH_8.out.cell, xeh]; rfl
  have bh15 : V8.cell? ⟨(V1.heap.size), 15, none⟩ = some (.slice Bh h.od.length coh) := by rw [HBH_8.out.cell, xeh]; rfl
  have lh := HBH_8.out.lt
  have lph : (ph.add (j * 8)).block < V8.heap.size := by rw [block_of_add]; exact hph
  clear k0h k1h euh Xh roh xeh
  obtain ⟨Pk, Qk, ck, dk, Ak, ctk, usk, Bk, cok, Xk⟩ := HPK_8.out.x
  obtain ⟨uk, euk, Rk⟩ := Xk.t.at_ (j := j) (t := t') HTK.out
  have rok := Xk.r
  have ook := Xk.o
  have xek := Xk.e
  obtain ⟨Sk0, sk0, qk0⟩ := Rk.st.slice
  obtain ⟨Sk1, sk1, qk1⟩ := Rk.lg.slice
  obtain ⟨Sk2, sk2, qk2⟩ := Rk.lf.slice
  obtain ⟨Sk3, sk3, qk3⟩ := Rk.pd.slice
  obtain ⟨Sk4, sk4, qk4⟩ := Rk.dn.slice
  have mk1 := Rk.lg.max
  have mk2 := Rk.lf.max
  have mk3 := Rk.pd.max
  have mk4 := Rk.dn.max
  have mk5 := ook.max
  have mk6 := rok.max
  unfold maxLen at mk1 mk2 mk3 mk4 mk5 mk6
  rw [show usk.length = k.th.length from Xk.t.1] at mk6
  have gwk := Rk.wt
  have gak := Rk.ba
  have gbk := Rk.be
  have HRTk := Lib.hid Rk
  clear Rk
  obtain ⟨ustk, ubak, ubek, ulgk, ulfk, updk, uwtk, udnk⟩ := uk
  simp only at qk0 qk1 qk2 qk3 qk4 gwk gak gbk
  subst qk0 qk1 qk2 qk3 qk4
  obtain ⟨pk, rfl, hpk, k0k, k1k⟩ := rc_elem (k := 8) rok (fun _ => rfl) (by decide) euk
  have ak0 : V8.cell? (pk.add (j * 8)) = some (.slice Sk0 t'.st.length sk0) := k0k
  have ak1 := k1k 0 _ rfl
  have ak2 := k1k 1 _ rfl
  have ak3 := k1k 2 _ rfl
  have ak4 := k1k 3 _ rfl
  have ak5 := k1k 4 _ rfl
  have ak6 := k1k 5 _ rfl
  have ak7 := k1k 6 _ rfl
  simp only [Nat.zero_add, Nat.reduceAdd] at ak1 ak2 ak3 ak4 ak5 ak6 ak7
  have bk11 : V8.cell? ⟨(wd.heap.size), 11, none⟩ = some (.slice (some pk) k.th.length ctk) := by rw [HBK_8.out.cell, xek]; rfl
  have bk15 : V8.cell? ⟨(wd.heap.size), 15, none⟩ = some (.slice Bk k.od.length cok) := by rw [HBK_8.out.cell, xek]; rfl
  have lk := HBK_8.out.lt
  have lpk : (pk.add (j * 8)).block < V8.heap.size := by rw [block_of_add]; exact hpk
  clear k0k k1k euk Xk rok xek
  rw [HLEN.out] at bk11
  obtain ⟨na, ena⟩ : ∃ n, t.dn.length = n := ⟨_, rfl⟩
  obtain ⟨no, eno⟩ : ∃ n, h.od.length = n := ⟨_, rfl⟩
  obtain ⟨nt, ent⟩ : ∃ n, h.th.length = n := ⟨_, rfl⟩
  have em : t.lf.length = 0 := hlf
  have f1 : t'.dn.length = na + 1 := by rw [HDN.out, List.length_append, ena]; rfl
  have f2 : t'.lf.length = 0 := by rw [HLF.out, em]
  have f4 : k.od.length = no + 1 := by rw [HOD.out, List.length_append, eno]; rfl
  rw [ena] at ah7
  rw [em] at ah4
  rw [eno] at bh15
  rw [ent] at bh11 bk11
  rw [f1] at ak7
  rw [f2] at ak4
  rw [f4] at bk15
  have hj : j < nt := by rw [← ent]; exact HJ.out
  have n5 : nt ≤ 9223372036854775807 := by rw [ent] at mh6; omega
  have ook2 := ook
  rw [f4, HOD.out] at ook2
  have hmx := mk5
  rw [f4] at hmx
  have n1 : no + 1 ≤ 9223372036854775807 := by omega
  have n2 : na + 1 ≤ 9223372036854775807 := by rw [f1] at mk4; omega
  have n3 : (0 : Nat) ≤ 9223372036854775807 := by rw [em] at mh2; omega
  obtain ⟨po, ep, hpo, ko⟩ := Rc.at_ (k := 1) (j := no) (x := (j : Int)) ook2 (fun _ => rfl) (by decide) (by rw [← eno]; simp)
  have o0 := ko 0 _ rfl
  rw [Nat.mul_one, Nat.add_zero] at o0
  subst ep
  have lpo : (po.add no).block < V8.heap.size := by rw [block_of_add]; exact hpo
  have dnk : Rc anc V8 (.slice Sk4 (na + 1) sk4) (t.dn ++ [a]) := by have q := HRTk.out.dn; rw [← HDN.out, ← f1]; exact q
  obtain ⟨pd, epd, hpd, pd0, pd1⟩ := rc_elem (k := 3) (j := na) (x := a) dnk (fun _ => rfl) (by decide) (by rw [← ena]; simp)
  have d0 : V8.cell? (pd.add (na * 3)) = some (.int .i64 a.1) := pd0
  have d1 := pd1 0 _ rfl
  have d2 := pd1 1 _ rfl
  simp only [Nat.zero_add, Nat.reduceAdd] at d1 d2
  have dl : (pd.add (na * 3)).block < V8.heap.size := by rw [block_of_add]; exact hpd
  subst epd
  have hNE := ne_ans a.1 a.2.1 a.2.2
  have ac := HBA_8.out.cell
  have al := HBA_8.out.lt
  rw [ent] at hoc
  clear eno ena ent em f1 f2 f4 mh1 mh2 mh3 mh4 mh5 mh6 mk1 mk2 mk3 mk4 mk5 mk6 gwh gah gbh gwk gak gbk hpk hph ooh ook ook2 hmx ko hpo pd0 pd1 dnk hpd
  generalize t.st.length = z1 at *
  generalize t'.st.length = z2 at *
  generalize t.lg.length = z4 at *
  generalize t'.lg.length = z5 at *
  generalize t.pd.length = z6 at *
  generalize t'.pd.length = z7 at *
  have q1 : decide (oth < 0) = false := decide_eq_false (by omega)
  have q2 : decide ((nt : Int) ≤ oth) = true := decide_eq_true (by omega)
  clear hoc
  go_upto_region 18 with fail
  go_quiet (fail)
  go_wp2
  go_ret
  exact ⟨rfl, (by (repeat (first | with_reducible exact HU_8.out | with_reducible refine Up.alloc ?_ _ | with_reducible refine Up.drew ?_ | with_reducible refine Up.drewN ?_ _)))⟩
set_option maxRecDepth 100000 in
set_option maxHeartbeats 16000000 in
theorem walk_in0same (C G : Array Value) (h : Hp) (j : Nat) (t : Th) (a : An) (oth : Int) (w : World) (hs : C.size = 17) (hone : C.all (·.oneCell') = true) (hi : In22 C G (j : Int) a oth) (HFEW : Hid (∀ W, Up w W → Calls Tryz.prog 10 #[.agg C] W fun e w' => e = .returned (.bool true) ∧ Up W w')) (hR : HpR w (.agg C) h) (hF : HpF h) (ht : h.th[j]? = some t) (hj0 : j < h.th.length) (hlf : t.lf.length = 0) (hoc : oth = (j : Int)) :
    Calls Tryz.prog 8 #[.agg G] w fun e w' => e = .returned (.bool true) ∧ Up w w' := by
  subst hoc
  have HI := Lib.hid hi
  have HONE := Lib.hid hone
  have HP0 := Lib.hid (fun W (u : Up w W) => hR.up u)
  have HDO := Lib.hid (fun W (u : Up w W) => answer_c (hR.up u) hF a (j : Int))
  have HTH := Lib.hid ht
  have HJ := Lib.hid hj0
  clear hi hone hR hF hj0
  have e0 : answered h (j : Int) a = ansH h j t a := by
    unfold answered
    rw [if_pos ⟨Int.natCast_nonneg _, by have := HJ.out; omega⟩, Int.toNat_natCast, ht]
  rw [e0] at HDO
  clear e0
  obtain ⟨k, ek⟩ : ∃ k, ansH h j t a = k := ⟨_, rfl⟩
  rw [ek] at HDO
  have HTK := Lib.hid (show k.th[j]? = some { t with dn := t.dn ++ [a], lf := t.lf.drop 1 } by rw [← ek]; show (h.th.set j _)[j]? = _; rw [List.getElem?_set_self HJ.out])
  have HLEN := Lib.hid (show k.th.length = h.th.length by rw [← ek]; show (h.th.set j _).length = _; rw [List.length_set])
  have HOD := Lib.hid (show k.od = h.od ++ [(j : Int)] by rw [← ek]; rfl)
  have HOTH := Lib.hid (show ∀ i, i ≠ j → k.th[i]? = h.th[i]? by rw [← ek]; intro i hi; show (h.th.set j _)[i]? = _; rw [List.getElem?_set_ne (fun q => hi q.symm)])
  clear ek ht
  obtain ⟨t', et'⟩ : ∃ t' : Th, { t with dn := t.dn ++ [a], lf := t.lf.drop 1 } = t' := ⟨_, rfl⟩
  rw [et'] at HTK
  have HDN := Lib.hid (show t'.dn = t.dn ++ [a] by rw [← et'])
  have HLF := Lib.hid (show t'.lf.length = t.lf.length - 1 by rw [← et']; show (t.lf.drop 1).length = _; rw [List.length_drop])
  clear et'
  go_enter Tryz.func8, Tryz.ntmps8
  go_wp2_with (with_reducible refine halt_at (o := ⟨_, Op.load 32 _, _, _, _, _⟩) ?_)
  unfold Halt
  refine list_at (fun V1 hV => ?_)
  have kv : Up w V1 := by rw [hV]; (repeat (first | with_reducible exact Up.refl _ | with_reducible refine Up.alloc ?_ _ | with_reducible refine Up.drew ?_ | with_reducible refine Up.drewN ?_ _))
  have nbI : Blk V1 (w.heap.size) 69 G := by rw [hV]; (repeat (first | with_reducible exact Blk.new' _ (by simp) _ _ | with_reducible exact Blk.new _ _ _ | with_reducible refine Blk.alloc ?_ _ | with_reducible refine Blk.drew ?_))
  clear hV
  have HU_1 := Lib.hid (kv)
  clear kv
  have HBI_1 := Lib.hid nbI
  clear nbI
  have hra : V1.rangeAt (w.heap.size) 0 C.toList := fun i v q => by
    rw [Nat.zero_add, HBI_1.out.cell]
    exact HI.out.r i v q
  have HRA := Lib.hid hra
  clear hra
  have j17 : V1.cell? ⟨(w.heap.size), 17, none⟩ = some (.int .i64 (j : Int)) := by rw [HBI_1.out.cell]; exact HI.out.t
  have j18 : V1.cell? ⟨(w.heap.size), 18, none⟩ = some (.int .i64 a.1) := by rw [HBI_1.out.cell]; exact HI.out.a0
  have j19 : V1.cell? ⟨(w.heap.size), 19, none⟩ = some (.int .u64 a.2.1) := by rw [HBI_1.out.cell]; exact HI.out.a1
  have j20 : V1.cell? ⟨(w.heap.size), 20, none⟩ = some (.bool a.2.2) := by rw [HBI_1.out.cell]; exact HI.out.a2
  have j21 : V1.cell? ⟨(w.heap.size), 21, none⟩ = some (.int .i64 (j : Int)) := by rw [HBI_1.out.cell]; exact HI.out.o
  have jl := HBI_1.out.lt
  refine heap_mid (by rfl) _ rfl rfl HRA.out hs ?_
  go_wp2_with (with_reducible refine halt_at (o := ⟨_, Op.store 32 _ _, _, _, _, _⟩) ?_)
  unfold Halt
  refine heap_new (C := C) (by rfl) _ _ rfl rfl rfl rfl (by first | rfl | simp) hs rfl HONE.out ?_
  simp only [put_none]
  refine list_at (fun V2 hV => ?_)
  have kv : Up V1 V2 := by rw [hV]; (repeat (first | with_reducible exact Up.refl _ | with_reducible refine Up.alloc ?_ _ | with_reducible refine Up.drew ?_ | with_reducible refine Up.drewN ?_ _))
  have nbH : Blk V2 (V1.heap.size) 32 C := by rw [hV]; (repeat (first | with_reducible exact Blk.new' _ (by simp) _ _ | with_reducible exact Blk.new _ _ _ | with_reducible refine Blk.alloc ?_ _ | with_reducible refine Blk.drew ?_))
  have kv2 := kv
  clear hV
  have HBI_2 := Lib.hid (HBI_1.out.up kv)
  have HU_2 := Lib.hid (HU_1.out.trans kv)
  clear HBI_1 HU_1
  clear kv
  have HBH_2 := Lib.hid nbH
  clear nbH
  have y17 := kv2.cell j17
  have y18 := kv2.cell j18
  have y19 := kv2.cell j19
  have y20 := kv2.cell j20
  have y21 := kv2.cell j21
  have yl := HBI_2.out.lt
  clear j17 j18 j19 j20 j21 jl kv2 HRA
  go_wp2_with (fail)
  clear y17 y18 y19 y20 y21 yl
  refine calls_at (fun V3 hV => ?_)
  have kv : Up V2 V3 := by rw [hV]; (repeat (first | with_reducible exact Up.refl _ | with_reducible refine Up.alloc ?_ _ | with_reducible refine Up.drew ?_ | with_reducible refine Up.drewN ?_ _))
  have nbA : Blk V3 (V2.heap.size) 56 #[.int .i64 a.1, .int .u64 a.2.1, .bool a.2.2] := by rw [hV]; (repeat (first | with_reducible exact Blk.new' _ (by simp) _ _ | with_reducible exact Blk.new _ _ _ | with_reducible refine Blk.alloc ?_ _ | with_reducible refine Blk.drew ?_))
  clear hV
  have HBI_3 := Lib.hid (HBI_2.out.up kv)
  have HBH_3 := Lib.hid (HBH_2.out.up kv)
  have HU_3 := Lib.hid (HU_2.out.trans kv)
  clear HBI_2 HBH_2 HU_2
  clear kv
  have HBA_3 := Lib.hid nbA
  clear nbA
  refine (shown17 V3).mono ?_
  rintro e w4 ⟨rfl, k3⟩
  have HBI_4 := Lib.hid (HBI_3.out.up k3)
  have HBH_4 := Lib.hid (HBH_3.out.up k3)
  have HBA_4 := Lib.hid (HBA_3.out.up k3)
  have HU_4 := Lib.hid (HU_3.out.trans k3)
  clear HBI_3 HBH_3 HBA_3 HU_3
  clear k3
  go_wp2_with (with_reducible refine halt_at (o := ⟨_, Op.load 32 _, _, _, _, _⟩) ?_)
  unfold Halt
  refine heap_load (by rfl) _ rfl rfl HBH_4.out hs ?_
  go_wp2_with (fail)
  refine calls_at (fun V5 hV => ?_)
  have kv : Up w4 V5 := by rw [hV]; (repeat (first | with_reducible exact Up.refl _ | with_reducible refine Up.alloc ?_ _ | with_reducible refine Up.drew ?_ | with_reducible refine Up.drewN ?_ _))
  clear hV
  have HBI_5 := Lib.hid (HBI_4.out.up kv)
  have HBH_5 := Lib.hid (HBH_4.out.up kv)
  have HBA_5 := Lib.hid (HBA_4.out.up kv)
  have HU_5 := Lib.hid (HU_4.out.trans kv)
  clear HBI_4 HBH_4 HBA_4 HU_4
  clear kv
  refine (HFEW.out V5 HU_5.out).mono ?_
  rintro e w6 ⟨rfl, k5⟩
  have HBI_6 := Lib.hid (HBI_5.out.up k5)
  have HBH_6 := Lib.hid (HBH_5.out.up k5)
  have HBA_6 := Lib.hid (HBA_5.out.up k5)
  have HU_6 := Lib.hid (HU_5.out.trans k5)
  clear HBI_5 HBH_5 HBA_5 HU_5
  clear k5
  go_wp2_with (with_reducible refine halt_at (o := ⟨_, Op.load 32 _, _, _, _, _⟩) ?_)
  unfold Halt
  refine heap_load (by rfl) _ rfl rfl HBH_6.out hs ?_
  have ac := HBA_6.out.cell
  have al := HBA_6.out.lt
  have HQ := Lib.hid (HDO.out _ HU_6.out)
  go_wp2_with (fail)
  refine HQ.out.mono ?_
  rintro e wd ⟨K, rfl, hk, kd⟩
  clear ac al
  have HBI_7 := Lib.hid (HBI_6.out.up kd)
  have HBH_7 := Lib.hid (HBH_6.out.up kd)
  have HBA_7 := Lib.hid (HBA_6.out.up kd)
  have HU_7 := Lib.hid (HU_6.out.trans kd)
  clear HBI_6 HBH_6 HBA_6 HU_6
  have HPK_7 := Lib.hid hk
  have HPH_7 := Lib.hid (HP0.out _ HU_7.out)
  clear kd HQ hk HP0 HDO
  go_wp2_with (with_reducible refine halt_at (o := ⟨_, Op.store 32 _ _, _, _, _, _⟩) ?_)
  unfold Halt
  refine heap_new (C := K) (by rfl) _ _ rfl rfl rfl rfl (by first | rfl | simp) HPK_7.out.size rfl HPK_7.out.one ?_
  simp only [put_none]
  refine list_at (fun V8 hV => ?_)
  have kv : Up wd V8 := by rw [hV]; (repeat (first | with_reducible exact Up.refl _ | with_reducible refine Up.alloc ?_ _ | with_reducible refine Up.drew ?_ | with_reducible refine Up.drewN ?_ _))
  have nbK : Blk V8 (wd.heap.size) 32 K := by rw [hV]; (repeat (first | with_reducible exact Blk.new' _ (by simp) _ _ | with_reducible exact Blk.new _ _ _ | with_reducible refine Blk.alloc ?_ _ | with_reducible refine Blk.drew ?_))
  clear hV
  have HBI_8 := Lib.hid (HBI_7.out.up kv)
  have HBH_8 := Lib.hid (HBH_7.out.up kv)
  have HBA_8 := Lib.hid (HBA_7.out.up kv)
  have HPK_8 := Lib.hid (HPK_7.out.up kv)
  have HPH_8 := Lib.hid (HPH_7.out.up kv)
  have HU_8 := Lib.hid (HU_7.out.trans kv)
  clear HBI_7 HBH_7 HBA_7 HPK_7 HPH_7 HU_7
  clear kv
  have HBK_8 := Lib.hid nbK
  clear nbK
  obtain ⟨Ph, Qh, ch, dh, Ah, cth, ush, Bh, coh, Xh⟩ := HPH_8.out.x
  obtain ⟨uh, euh, Rh⟩ := Xh.t.at_ (j := j) (t := t) HTH.out
  have roh := Xh.r
  have ooh := Xh.o
  have xeh := Xh.e
  obtain ⟨Sh0, sh0, qh0⟩ := Rh.st.slice
  obtain ⟨Sh1, sh1, qh1⟩ := Rh.lg.slice
  obtain ⟨Sh2, sh2, qh2⟩ := Rh.lf.slice
  obtain ⟨Sh3, sh3, qh3⟩ := Rh.pd.slice
  obtain ⟨Sh4, sh4, qh4⟩ := Rh.dn.slice
  have mh1 := Rh.lg.max
  have mh2 := Rh.lf.max
  have mh3 := Rh.pd.max
  have mh4 := Rh.dn.max
  have mh5 := ooh.max
  have mh6 := roh.max
  unfold maxLen at mh1 mh2 mh3 mh4 mh5 mh6
  rw [show ush.length = h.th.length from Xh.t.1] at mh6
  have gwh := Rh.wt
  have gah := Rh.ba
  have gbh := Rh.be
  have HRTh := Lib.hid Rh
  clear Rh
  obtain ⟨usth, ubah, ubeh, ulgh, ulfh, updh, uwth, udnh⟩ := uh
  simp only at qh0 qh1 qh2 qh3 qh4 gwh gah gbh
  subst qh0 qh1 qh2 qh3 qh4
  obtain ⟨ph, rfl, hph, k0h, k1h⟩ := rc_elem (k := 8) roh (fun _ => rfl) (by decide) euh
  have ah0 : V8.cell? (ph.add (j * 8)) = some (.slice Sh0 t.st.length sh0) := k0h
  have ah1 := k1h 0 _ rfl
  have ah2 := k1h 1 _ rfl
  have ah3 := k1h 2 _ rfl
  have ah4 := k1h 3 _ rfl
  have ah5 := k1h 4 _ rfl
  have ah6 := k1h 5 _ rfl
  have ah7 := k1h 6 _ rfl
  simp only [Nat.zero_add, Nat.reduceAdd] at ah1 ah2 ah3 ah4 ah5 ah6 ah7
  have bh11 : V8.cell? ⟨(V1.heap.size), 11, none⟩ = some (.slice (some ph) h.th.length cth) := by rw [HBH_8.out.cell, xeh]; rfl
  have bh15 : V8.cell? ⟨(V1.heap.size), 15, none⟩ = some (.slice Bh h.od.length coh) := by rw [HBH_8.out.cell, xeh]; rfl
  have lh := HBH_8.out.lt
  have lph : (ph.add (j * 8)).block < V8.heap.size := by rw [block_of_add]; exact hph
  clear k0h k1h euh Xh roh xeh
  obtain ⟨Pk, Qk, ck, dk, Ak, ctk, usk, Bk, cok, Xk⟩ := HPK_8.out.x
  obtain ⟨uk, euk, Rk⟩ := Xk.t.at_ (j := j) (t := t') HTK.out
  have rok := Xk.r
  have ook := Xk.o
  have xek := Xk.e
  obtain ⟨Sk0, sk0, qk0⟩ := Rk.st.slice
  obtain ⟨Sk1, sk1, qk1⟩ := Rk.lg.slice
  obtain ⟨Sk2, sk2, qk2⟩ := Rk.lf.slice
  obtain ⟨Sk3, sk3, qk3⟩ := Rk.pd.slice
  obtain ⟨Sk4, sk4, qk4⟩ := Rk.dn.slice
  have mk1 := Rk.lg.max
  have mk2 := Rk.lf.max
  have mk3 := Rk.pd.max
  have mk4 := Rk.dn.max
  have mk5 := ook.max
  have mk6 := rok.max
  unfold maxLen at mk1 mk2 mk3 mk4 mk5 mk6
  rw [show usk.length = k.th.length from Xk.t.1] at mk6
  have gwk := Rk.wt
  have gak := Rk.ba
  have gbk := Rk.be
  have HRTk := Lib.hid Rk
  clear Rk
  obtain ⟨ustk, ubak, ubek, ulgk, ulfk, updk, uwtk, udnk⟩ := uk
  simp only at qk0 qk1 qk2 qk3 qk4 gwk gak gbk
  subst qk0 qk1 qk2 qk3 qk4
  obtain ⟨pk, rfl, hpk, k0k, k1k⟩ := rc_elem (k := 8) rok (fun _ => rfl) (by decide) euk
  have ak0 : V8.cell? (pk.add (j * 8)) = some (.slice Sk0 t'.st.length sk0) := k0k
  have ak1 := k1k 0 _ rfl
  have ak2 := k1k 1 _ rfl
  have ak3 := k1k 2 _ rfl
  have ak4 := k1k 3 _ rfl
  have ak5 := k1k 4 _ rfl
  have ak6 := k1k 5 _ rfl
  have ak7 := k1k 6 _ rfl
  simp only [Nat.zero_add, Nat.reduceAdd] at ak1 ak2 ak3 ak4 ak5 ak6 ak7
  have bk11 : V8.cell? ⟨(wd.heap.size), 11, none⟩ = some (.slice (some pk) k.th.length ctk) := by rw [HBK_8.out.cell, xek]; rfl
  have bk15 : V8.cell? ⟨(wd.heap.size), 15, none⟩ = some (.slice Bk k.od.length cok) := by rw [HBK_8.out.cell, xek]; rfl
  have lk := HBK_8.out.lt
  have lpk : (pk.add (j * 8)).block < V8.heap.size := by rw [block_of_add]; exact hpk
  clear k0k k1k euk Xk rok xek
  rw [HLEN.out] at bk11
  obtain ⟨na, ena⟩ : ∃ n, t.dn.length = n := ⟨_, rfl⟩
  obtain ⟨no, eno⟩ : ∃ n, h.od.length = n := ⟨_, rfl⟩
  obtain ⟨nt, ent⟩ : ∃ n, h.th.length = n := ⟨_, rfl⟩
  have em : t.lf.length = 0 := hlf
  have f1 : t'.dn.length = na + 1 := by rw [HDN.out, List.length_append, ena]; rfl
  have f2 : t'.lf.length = 0 := by rw [HLF.out, em]
  have f4 : k.od.length = no + 1 := by rw [HOD.out, List.length_append, eno]; rfl
  rw [ena] at ah7
  rw [em] at ah4
  rw [eno] at bh15
  rw [ent] at bh11 bk11
  rw [f1] at ak7
  rw [f2] at ak4
  rw [f4] at bk15
  have hj : j < nt := by rw [← ent]; exact HJ.out
  have n5 : nt ≤ 9223372036854775807 := by rw [ent] at mh6; omega
  have ook2 := ook
  rw [f4, HOD.out] at ook2
  have hmx := mk5
  rw [f4] at hmx
  have n1 : no + 1 ≤ 9223372036854775807 := by omega
  have n2 : na + 1 ≤ 9223372036854775807 := by rw [f1] at mk4; omega
  have n3 : (0 : Nat) ≤ 9223372036854775807 := by rw [em] at mh2; omega
  obtain ⟨po, ep, hpo, ko⟩ := Rc.at_ (k := 1) (j := no) (x := (j : Int)) ook2 (fun _ => rfl) (by decide) (by rw [← eno]; simp)
  have o0 := ko 0 _ rfl
  rw [Nat.mul_one, Nat.add_zero] at o0
  subst ep
  have lpo : (po.add no).block < V8.heap.size := by rw [block_of_add]; exact hpo
  have dnk : Rc anc V8 (.slice Sk4 (na + 1) sk4) (t.dn ++ [a]) := by have q := HRTk.out.dn; rw [← HDN.out, ← f1]; exact q
  obtain ⟨pd, epd, hpd, pd0, pd1⟩ := rc_elem (k := 3) (j := na) (x := a) dnk (fun _ => rfl) (by decide) (by rw [← ena]; simp)
  have d0 : V8.cell? (pd.add (na * 3)) = some (.int .i64 a.1) := pd0
  have d1 := pd1 0 _ rfl
  have d2 := pd1 1 _ rfl
  simp only [Nat.zero_add, Nat.reduceAdd] at d1 d2
  have dl : (pd.add (na * 3)).block < V8.heap.size := by rw [block_of_add]; exact hpd
  subst epd
  have hNE := ne_ans a.1 a.2.1 a.2.2
  have ac := HBA_8.out.cell
  have al := HBA_8.out.lt
  clear eno ena ent em f1 f2 f4 mh1 mh2 mh3 mh4 mh5 mh6 mk1 mk2 mk3 mk4 mk5 mk6 gwh gah gbh gwk gak gbk hpk hph ooh ook ook2 hmx ko hpo pd0 pd1 dnk hpd
  generalize t.st.length = z1 at *
  generalize t'.st.length = z2 at *
  generalize t.lg.length = z4 at *
  generalize t'.lg.length = z5 at *
  generalize t.pd.length = z6 at *
  generalize t'.pd.length = z7 at *
  have q1 : decide ((nt : Int) ≤ (j : Int)) = false := decide_eq_false (by omega)
  go_upto_region 18 with fail
  go_quiet (fail)
  go_wp2
  go_ret
  exact ⟨rfl, (by (repeat (first | with_reducible exact HU_8.out | with_reducible refine Up.alloc ?_ _ | with_reducible refine Up.drew ?_ | with_reducible refine Up.drewN ?_ _)))⟩
set_option maxRecDepth 100000 in
set_option maxHeartbeats 16000000 in
theorem walk_in0i (C G : Array Value) (h : Hp) (j : Nat) (t : Th) (a : An) (oth : Int) (w : World) (hs : C.size = 17) (hone : C.all (·.oneCell') = true) (hi : In22 C G (j : Int) a oth) (HFEW : Hid (∀ W, Up w W → Calls Tryz.prog 10 #[.agg C] W fun e w' => e = .returned (.bool true) ∧ Up W w')) (hR : HpR w (.agg C) h) (hF : HpF h) (ht : h.th[j]? = some t) (hj0 : j < h.th.length) (hlf : t.lf.length = 0) (i : Nat) (s0 : Th) (HIL : Hid (i < h.th.length)) (HIJ : Hid (i ≠ j)) (HTI : Hid (h.th[i]? = some s0)) (hoc : oth = (i : Int)) :
    Calls Tryz.prog 8 #[.agg G] w fun e w' => e = .returned (.bool true) ∧ Up w w' := by
  subst hoc
  have HI := Lib.hid hi
  have HONE := Lib.hid hone
  have HP0 := Lib.hid (fun W (u : Up w W) => hR.up u)
  have HDO := Lib.hid (fun W (u : Up w W) => answer_c (hR.up u) hF a (j : Int))
  have HTH := Lib.hid ht
  have HJ := Lib.hid hj0
  clear hi hone hR hF hj0
  have e0 : answered h (j : Int) a = ansH h j t a := by
    unfold answered
    rw [if_pos ⟨Int.natCast_nonneg _, by have := HJ.out; omega⟩, Int.toNat_natCast, ht]
  rw [e0] at HDO
  clear e0
  obtain ⟨k, ek⟩ : ∃ k, ansH h j t a = k := ⟨_, rfl⟩
  rw [ek] at HDO
  have HTK := Lib.hid (show k.th[j]? = some { t with dn := t.dn ++ [a], lf := t.lf.drop 1 } by rw [← ek]; show (h.th.set j _)[j]? = _; rw [List.getElem?_set_self HJ.out])
  have HLEN := Lib.hid (show k.th.length = h.th.length by rw [← ek]; show (h.th.set j _).length = _; rw [List.length_set])
  have HOD := Lib.hid (show k.od = h.od ++ [(j : Int)] by rw [← ek]; rfl)
  have HOTH := Lib.hid (show ∀ i, i ≠ j → k.th[i]? = h.th[i]? by rw [← ek]; intro i hi; show (h.th.set j _)[i]? = _; rw [List.getElem?_set_ne (fun q => hi q.symm)])
  clear ek ht
  obtain ⟨t', et'⟩ : ∃ t' : Th, { t with dn := t.dn ++ [a], lf := t.lf.drop 1 } = t' := ⟨_, rfl⟩
  rw [et'] at HTK
  have HDN := Lib.hid (show t'.dn = t.dn ++ [a] by rw [← et'])
  have HLF := Lib.hid (show t'.lf.length = t.lf.length - 1 by rw [← et']; show (t.lf.drop 1).length = _; rw [List.length_drop])
  clear et'
  go_enter Tryz.func8, Tryz.ntmps8
  go_wp2_with (with_reducible refine halt_at (o := ⟨_, Op.load 32 _, _, _, _, _⟩) ?_)
  unfold Halt
  refine list_at (fun V1 hV => ?_)
  have kv : Up w V1 := by rw [hV]; (repeat (first | with_reducible exact Up.refl _ | with_reducible refine Up.alloc ?_ _ | with_reducible refine Up.drew ?_ | with_reducible refine Up.drewN ?_ _))
  have nbI : Blk V1 (w.heap.size) 69 G := by rw [hV]; (repeat (first | with_reducible exact Blk.new' _ (by simp) _ _ | with_reducible exact Blk.new _ _ _ | with_reducible refine Blk.alloc ?_ _ | with_reducible refine Blk.drew ?_))
  clear hV
  have HU_1 := Lib.hid (kv)
  clear kv
  have HBI_1 := Lib.hid nbI
  clear nbI
  have hra : V1.rangeAt (w.heap.size) 0 C.toList := fun i v q => by
    rw [Nat.zero_add, HBI_1.out.cell]
    exact HI.out.r i v q
  have HRA := Lib.hid hra
  clear hra
  have j17 : V1.cell? ⟨(w.heap.size), 17, none⟩ = some (.int .i64 (j : Int)) := by rw [HBI_1.out.cell]; exact HI.out.t
  have j18 : V1.cell? ⟨(w.heap.size), 18, none⟩ = some (.int .i64 a.1) := by rw [HBI_1.out.cell]; exact HI.out.a0
  have j19 : V1.cell? ⟨(w.heap.size), 19, none⟩ = some (.int .u64 a.2.1) := by rw [HBI_1.out.cell]; exact HI.out.a1
  have j20 : V1.cell? ⟨(w.heap.size), 20, none⟩ = some (.bool a.2.2) := by rw [HBI_1.out.cell]; exact HI.out.a2
  have j21 : V1.cell? ⟨(w.heap.size), 21, none⟩ = some (.int .i64 (i : Int)) := by rw [HBI_1.out.cell]; exact HI.out.o
  have jl := HBI_1.out.lt
  refine heap_mid (by rfl) _ rfl rfl HRA.out hs ?_
  go_wp2_with (with_reducible refine halt_at (o := ⟨_, Op.store 32 _ _, _, _, _, _⟩) ?_)
  unfold Halt
  refine heap_new (C := C) (by rfl) _ _ rfl rfl rfl rfl (by first | rfl | simp) hs rfl HONE.out ?_
  simp only [put_none]
  refine list_at (fun V2 hV => ?_)
  have kv : Up V1 V2 := by rw [hV]; (repeat (first | with_reducible exact Up.refl _ | with_reducible refine Up.alloc ?_ _ | with_reducible refine Up.drew ?_ | with_reducible refine Up.drewN ?_ _))
  have nbH : Blk V2 (V1.heap.size) 32 C := by rw [hV]; (repeat (first | with_reducible exact Blk.new' _ (by simp) _ _ | with_reducible exact Blk.new _ _ _ | with_reducible refine Blk.alloc ?_ _ | with_reducible refine Blk.drew ?_))
  have kv2 := kv
  clear hV
  have HBI_2 := Lib.hid (HBI_1.out.up kv)
  have HU_2 := Lib.hid (HU_1.out.trans kv)
  clear HBI_1 HU_1
  clear kv
  have HBH_2 := Lib.hid nbH
  clear nbH
  have y17 := kv2.cell j17
  have y18 := kv2.cell j18
  have y19 := kv2.cell j19
  have y20 := kv2.cell j20
  have y21 := kv2.cell j21
  have yl := HBI_2.out.lt
  clear j17 j18 j19 j20 j21 jl kv2 HRA
  go_wp2_with (fail)
  clear y17 y18 y19 y20 y21 yl
  refine calls_at (fun V3 hV => ?_)
  have kv : Up V2 V3 := by rw [hV]; (repeat (first | with_reducible exact Up.refl _ | with_reducible refine Up.alloc ?_ _ | with_reducible refine Up.drew ?_ | with_reducible refine Up.drewN ?_ _))
  have nbA : Blk V3 (V2.heap.size) 56 #[.int .i64 a.1, .int .u64 a.2.1, .bool a.2.2] := by rw [hV]; (repeat (first | with_reducible exact Blk.new' _ (by simp) _ _ | with_reducible exact Blk.new _ _ _ | with_reducible refine Blk.alloc ?_ _ | with_reducible refine Blk.drew ?_))
  clear hV
  have HBI_3 := Lib.hid (HBI_2.out.up kv)
  have HBH_3 := Lib.hid (HBH_2.out.up kv)
  have HU_3 := Lib.hid (HU_2.out.trans kv)
  clear HBI_2 HBH_2 HU_2
  clear kv
  have HBA_3 := Lib.hid nbA
  clear nbA
  refine (shown17 V3).mono ?_
  rintro e w4 ⟨rfl, k3⟩
  have HBI_4 := Lib.hid (HBI_3.out.up k3)
  have HBH_4 := Lib.hid (HBH_3.out.up k3)
  have HBA_4 := Lib.hid (HBA_3.out.up k3)
  have HU_4 := Lib.hid (HU_3.out.trans k3)
  clear HBI_3 HBH_3 HBA_3 HU_3
  clear k3
  go_wp2_with (with_reducible refine halt_at (o := ⟨_, Op.load 32 _, _, _, _, _⟩) ?_)
  unfold Halt
  refine heap_load (by rfl) _ rfl rfl HBH_4.out hs ?_
  go_wp2_with (fail)
  refine calls_at (fun V5 hV => ?_)
  have kv : Up w4 V5 := by rw [hV]; (repeat (first | with_reducible exact Up.refl _ | with_reducible refine Up.alloc ?_ _ | with_reducible refine Up.drew ?_ | with_reducible refine Up.drewN ?_ _))
  clear hV
  have HBI_5 := Lib.hid (HBI_4.out.up kv)
  have HBH_5 := Lib.hid (HBH_4.out.up kv)
  have HBA_5 := Lib.hid (HBA_4.out.up kv)
  have HU_5 := Lib.hid (HU_4.out.trans kv)
  clear HBI_4 HBH_4 HBA_4 HU_4
  clear kv
  refine (HFEW.out V5 HU_5.out).mono ?_
  rintro e w6 ⟨rfl, k5⟩
  have HBI_6 := Lib.hid (HBI_5.out.up k5)
  have HBH_6 := Lib.hid (HBH_5.out.up k5)
  have HBA_6 := Lib.hid (HBA_5.out.up k5)
  have HU_6 := Lib.hid (HU_5.out.trans k5)
  clear HBI_5 HBH_5 HBA_5 HU_5
  clear k5
  go_wp2_with (with_reducible refine halt_at (o := ⟨_, Op.load 32 _, _, _, _, _⟩) ?_)
  unfold Halt
  refine heap_load (by rfl) _ rfl rfl HBH_6.out hs ?_
  have ac := HBA_6.out.cell
  have al := HBA_6.out.lt
  have HQ := Lib.hid (HDO.out _ HU_6.out)
  go_wp2_with (fail)
  refine HQ.out.mono ?_
  rintro e wd ⟨K, rfl, hk, kd⟩
  clear ac al
  have HBI_7 := Lib.hid (HBI_6.out.up kd)
  have HBH_7 := Lib.hid (HBH_6.out.up kd)
  have HBA_7 := Lib.hid (HBA_6.out.up kd)
  have HU_7 := Lib.hid (HU_6.out.trans kd)
  clear HBI_6 HBH_6 HBA_6 HU_6
  have HPK_7 := Lib.hid hk
  have HPH_7 := Lib.hid (HP0.out _ HU_7.out)
  clear kd HQ hk HP0 HDO
  go_wp2_with (with_reducible refine halt_at (o := ⟨_, Op.store 32 _ _, _, _, _, _⟩) ?_)
  unfold Halt
  refine heap_new (C := K) (by rfl) _ _ rfl rfl rfl rfl (by first | rfl | simp) HPK_7.out.size rfl HPK_7.out.one ?_
  simp only [put_none]
  refine list_at (fun V8 hV => ?_)
  have kv : Up wd V8 := by rw [hV]; (repeat (first | with_reducible exact Up.refl _ | with_reducible refine Up.alloc ?_ _ | with_reducible refine Up.drew ?_ | with_reducible refine Up.drewN ?_ _))
  have nbK : Blk V8 (wd.heap.size) 32 K := by rw [hV]; (repeat (first | with_reducible exact Blk.new' _ (by simp) _ _ | with_reducible exact Blk.new _ _ _ | with_reducible refine Blk.alloc ?_ _ | with_reducible refine Blk.drew ?_))
  clear hV
  have HBI_8 := Lib.hid (HBI_7.out.up kv)
  have HBH_8 := Lib.hid (HBH_7.out.up kv)
  have HBA_8 := Lib.hid (HBA_7.out.up kv)
  have HPK_8 := Lib.hid (HPK_7.out.up kv)
  have HPH_8 := Lib.hid (HPH_7.out.up kv)
  have HU_8 := Lib.hid (HU_7.out.trans kv)
  clear HBI_7 HBH_7 HBA_7 HPK_7 HPH_7 HU_7
  clear kv
  have HBK_8 := Lib.hid nbK
  clear nbK
  obtain ⟨Ph, Qh, ch, dh, Ah, cth, ush, Bh, coh, Xh⟩ := HPH_8.out.x
  obtain ⟨uh, euh, Rh⟩ := Xh.t.at_ (j := j) (t := t) HTH.out
  have roh := Xh.r
  have ooh := Xh.o
  have xeh := Xh.e
  obtain ⟨Sh0, sh0, qh0⟩ := Rh.st.slice
  obtain ⟨Sh1, sh1, qh1⟩ := Rh.lg.slice
  obtain ⟨Sh2, sh2, qh2⟩ := Rh.lf.slice
  obtain ⟨Sh3, sh3, qh3⟩ := Rh.pd.slice
  obtain ⟨Sh4, sh4, qh4⟩ := Rh.dn.slice
  have mh1 := Rh.lg.max
  have mh2 := Rh.lf.max
  have mh3 := Rh.pd.max
  have mh4 := Rh.dn.max
  have mh5 := ooh.max
  have mh6 := roh.max
  unfold maxLen at mh1 mh2 mh3 mh4 mh5 mh6
  rw [show ush.length = h.th.length from Xh.t.1] at mh6
  have gwh := Rh.wt
  have gah := Rh.ba
  have gbh := Rh.be
  have HRTh := Lib.hid Rh
  clear Rh
  obtain ⟨usth, ubah, ubeh, ulgh, ulfh, updh, uwth, udnh⟩ := uh
  simp only at qh0 qh1 qh2 qh3 qh4 gwh gah gbh
  subst qh0 qh1 qh2 qh3 qh4
  obtain ⟨ph, rfl, hph, k0h, k1h⟩ := rc_elem (k := 8) roh (fun _ => rfl) (by decide) euh
  have ah0 : V8.cell? (ph.add (j * 8)) = some (.slice Sh0 t.st.length sh0) := k0h
  have ah1 := k1h 0 _ rfl
  have ah2 := k1h 1 _ rfl
  have ah3 := k1h 2 _ rfl
  have ah4 := k1h 3 _ rfl
  have ah5 := k1h 4 _ rfl
  have ah6 := k1h 5 _ rfl
  have ah7 := k1h 6 _ rfl
  simp only [Nat.zero_add, Nat.reduceAdd] at ah1 ah2 ah3 ah4 ah5 ah6 ah7
  have bh11 : V8.cell? ⟨(V1.heap.size), 11, none⟩ = some (.slice (some ph) h.th.length cth) := by rw [HBH_8.out.cell, xeh]; rfl
  have bh15 : V8.cell? ⟨(V1.heap.size), 15, none⟩ = some (.slice Bh h.od.length coh) := by rw [HBH_8.out.cell, xeh]; rfl
  have lh := HBH_8.out.lt
  have lph : (ph.add (j * 8)).block < V8.heap.size := by rw [block_of_add]; exact hph
  clear k0h k1h euh Xh roh xeh
  obtain ⟨Pk, Qk, ck, dk, Ak, ctk, usk, Bk, cok, Xk⟩ := HPK_8.out.x
  obtain ⟨uk, euk, Rk⟩ := Xk.t.at_ (j := j) (t := t') HTK.out
  have rok := Xk.r
  have ook := Xk.o
  have xek := Xk.e
  obtain ⟨Sk0, sk0, qk0⟩ := Rk.st.slice
  obtain ⟨Sk1, sk1, qk1⟩ := Rk.lg.slice
  obtain ⟨Sk2, sk2, qk2⟩ := Rk.lf.slice
  obtain ⟨Sk3, sk3, qk3⟩ := Rk.pd.slice
  obtain ⟨Sk4, sk4, qk4⟩ := Rk.dn.slice
  have mk1 := Rk.lg.max
  have mk2 := Rk.lf.max
  have mk3 := Rk.pd.max
  have mk4 := Rk.dn.max
  have mk5 := ook.max
  have mk6 := rok.max
  unfold maxLen at mk1 mk2 mk3 mk4 mk5 mk6
  rw [show usk.length = k.th.length from Xk.t.1] at mk6
  have gwk := Rk.wt
  have gak := Rk.ba
  have gbk := Rk.be
  have HRTk := Lib.hid Rk
  clear Rk
  obtain ⟨ustk, ubak, ubek, ulgk, ulfk, updk, uwtk, udnk⟩ := uk
  simp only at qk0 qk1 qk2 qk3 qk4 gwk gak gbk
  subst qk0 qk1 qk2 qk3 qk4
  obtain ⟨pk, rfl, hpk, k0k, k1k⟩ := rc_elem (k := 8) rok (fun _ => rfl) (by decide) euk
  have ak0 : V8.cell? (pk.add (j * 8)) = some (.slice Sk0 t'.st.length sk0) := k0k
  have ak1 := k1k 0 _ rfl
  have ak2 := k1k 1 _ rfl
  have ak3 := k1k 2 _ rfl
  have ak4 := k1k 3 _ rfl
  have ak5 := k1k 4 _ rfl
  have ak6 := k1k 5 _ rfl
  have ak7 := k1k 6 _ rfl
  simp only [Nat.zero_add, Nat.reduceAdd] at ak1 ak2 ak3 ak4 ak5 ak6 ak7
  have bk11 : V8.cell? ⟨(wd.heap.size), 11, none⟩ = some (.slice (some pk) k.th.length ctk) := by rw [HBK_8.out.cell, xek]; rfl
  have bk15 : V8.cell? ⟨(wd.heap.size), 15, none⟩ = some (.slice Bk k.od.length cok) := by rw [HBK_8.out.cell, xek]; rfl
  have lk := HBK_8.out.lt
  have lpk : (pk.add (j * 8)).block < V8.heap.size := by rw [block_of_add]; exact hpk
  clear k0k k1k euk Xk rok xek
  rw [HLEN.out] at bk11
  obtain ⟨na, ena⟩ : ∃ n, t.dn.length = n := ⟨_, rfl⟩
  obtain ⟨no, eno⟩ : ∃ n, h.od.length = n := ⟨_, rfl⟩
  obtain ⟨nt, ent⟩ : ∃ n, h.th.length = n := ⟨_, rfl⟩
  have em : t.lf.length = 0 := hlf
  have f1 : t'.dn.length = na + 1 := by rw [HDN.out, List.length_append, ena]; rfl
  have f2 : t'.lf.length = 0 := by rw [HLF.out, em]
  have f4 : k.od.length = no + 1 := by rw [HOD.out, List.length_append, eno]; rfl
  rw [ena] at ah7
  rw [em] at ah4
  rw [eno] at bh15
  rw [ent] at bh11 bk11
  rw [f1] at ak7
  rw [f2] at ak4
  rw [f4] at bk15
  have hj : j < nt := by rw [← ent]; exact HJ.out
  have n5 : nt ≤ 9223372036854775807 := by rw [ent] at mh6; omega
  have ook2 := ook
  rw [f4, HOD.out] at ook2
  have hmx := mk5
  rw [f4] at hmx
  have n1 : no + 1 ≤ 9223372036854775807 := by omega
  have n2 : na + 1 ≤ 9223372036854775807 := by rw [f1] at mk4; omega
  have n3 : (0 : Nat) ≤ 9223372036854775807 := by rw [em] at mh2; omega
  obtain ⟨po, ep, hpo, ko⟩ := Rc.at_ (k := 1) (j := no) (x := (j : Int)) ook2 (fun _ => rfl) (by decide) (by rw [← eno]; simp)
  have o0 := ko 0 _ rfl
  rw [Nat.mul_one, Nat.add_zero] at o0
  subst ep
  have lpo : (po.add no).block < V8.heap.size := by rw [block_of_add]; exact hpo
  have dnk : Rc anc V8 (.slice Sk4 (na + 1) sk4) (t.dn ++ [a]) := by have q := HRTk.out.dn; rw [← HDN.out, ← f1]; exact q
  obtain ⟨pd, epd, hpd, pd0, pd1⟩ := rc_elem (k := 3) (j := na) (x := a) dnk (fun _ => rfl) (by decide) (by rw [← ena]; simp)
  have d0 : V8.cell? (pd.add (na * 3)) = some (.int .i64 a.1) := pd0
  have d1 := pd1 0 _ rfl
  have d2 := pd1 1 _ rfl
  simp only [Nat.zero_add, Nat.reduceAdd] at d1 d2
  have dl : (pd.add (na * 3)).block < V8.heap.size := by rw [block_of_add]; exact hpd
  subst epd
  have hNE := ne_ans a.1 a.2.1 a.2.2
  have ac := HBA_8.out.cell
  have al := HBA_8.out.lt
  have HKI := Lib.hid ((HOTH.out i HIJ.out).trans HTI.out)
  clear eno ena em f1 f2 f4 mh1 mh2 mh3 mh4 mh5 mk1 mk2 mk3 mk4 mk5 mk6 gwh gah gbh gwk gak gbk hpk hph ooh ook ook2 hmx ko hpo pd0 pd1 dnk hpd
  obtain ⟨Px, Qx, cx, dx, Ax, ctx, usx, Bx, cox, Xx⟩ := HPH_8.out.x
  obtain ⟨ux, eux, Rx⟩ := Xx.t.at_ (j := i) (t := s0) HTI.out
  have rox := Xx.r
  have oox := Xx.o
  have xex := Xx.e
  obtain ⟨Sx0, sx0, qx0⟩ := Rx.st.slice
  obtain ⟨Sx1, sx1, qx1⟩ := Rx.lg.slice
  obtain ⟨Sx2, sx2, qx2⟩ := Rx.lf.slice
  obtain ⟨Sx3, sx3, qx3⟩ := Rx.pd.slice
  obtain ⟨Sx4, sx4, qx4⟩ := Rx.dn.slice
  have mx1 := Rx.lg.max
  have mx2 := Rx.lf.max
  have mx3 := Rx.pd.max
  have mx4 := Rx.dn.max
  have mx5 := oox.max
  have mx6 := rox.max
  unfold maxLen at mx1 mx2 mx3 mx4 mx5 mx6
  rw [show usx.length = h.th.length from Xx.t.1] at mx6
  have gwx := Rx.wt
  have gax := Rx.ba
  have gbx := Rx.be
  have HRTx := Lib.hid Rx
  clear Rx
  obtain ⟨ustx, ubax, ubex, ulgx, ulfx, updx, uwtx, udnx⟩ := ux
  simp only at qx0 qx1 qx2 qx3 qx4 gwx gax gbx
  subst qx0 qx1 qx2 qx3 qx4
  obtain ⟨px, rfl, hpx, k0x, k1x⟩ := rc_elem (k := 8) rox (fun _ => rfl) (by decide) eux
  have ax0 : V8.cell? (px.add (i * 8)) = some (.slice Sx0 s0.st.length sx0) := k0x
  have ax1 := k1x 0 _ rfl
  have ax2 := k1x 1 _ rfl
  have ax3 := k1x 2 _ rfl
  have ax4 := k1x 3 _ rfl
  have ax5 := k1x 4 _ rfl
  have ax6 := k1x 5 _ rfl
  have ax7 := k1x 6 _ rfl
  simp only [Nat.zero_add, Nat.reduceAdd] at ax1 ax2 ax3 ax4 ax5 ax6 ax7
  have bx11 : V8.cell? ⟨(V1.heap.size), 11, none⟩ = some (.slice (some px) h.th.length ctx) := by rw [HBH_8.out.cell, xex]; rfl
  have bx15 : V8.cell? ⟨(V1.heap.size), 15, none⟩ = some (.slice Bx h.od.length cox) := by rw [HBH_8.out.cell, xex]; rfl
  have lx := HBH_8.out.lt
  have lpx : (px.add (i * 8)).block < V8.heap.size := by rw [block_of_add]; exact hpx
  clear k0x k1x eux Xx rox xex
  obtain ⟨Py, Qy, cy, dy, Ay, cty, usy, By, coy, Xy⟩ := HPK_8.out.x
  obtain ⟨uy, euy, Ry⟩ := Xy.t.at_ (j := i) (t := s0) HKI.out
  have roy := Xy.r
  have ooy := Xy.o
  have xey := Xy.e
  obtain ⟨Sy0, sy0, qy0⟩ := Ry.st.slice
  obtain ⟨Sy1, sy1, qy1⟩ := Ry.lg.slice
  obtain ⟨Sy2, sy2, qy2⟩ := Ry.lf.slice
  obtain ⟨Sy3, sy3, qy3⟩ := Ry.pd.slice
  obtain ⟨Sy4, sy4, qy4⟩ := Ry.dn.slice
  have my1 := Ry.lg.max
  have my2 := Ry.lf.max
  have my3 := Ry.pd.max
  have my4 := Ry.dn.max
  have my5 := ooy.max
  have my6 := roy.max
  unfold maxLen at my1 my2 my3 my4 my5 my6
  rw [show usy.length = k.th.length from Xy.t.1] at my6
  have gwy := Ry.wt
  have gay := Ry.ba
  have gby := Ry.be
  have HRTy := Lib.hid Ry
  clear Ry
  obtain ⟨usty, ubay, ubey, ulgy, ulfy, updy, uwty, udny⟩ := uy
  simp only at qy0 qy1 qy2 qy3 qy4 gwy gay gby
  subst qy0 qy1 qy2 qy3 qy4
  obtain ⟨py, rfl, hpy, k0y, k1y⟩ := rc_elem (k := 8) roy (fun _ => rfl) (by decide) euy
  have ay0 : V8.cell? (py.add (i * 8)) = some (.slice Sy0 s0.st.length sy0) := k0y
  have ay1 := k1y 0 _ rfl
  have ay2 := k1y 1 _ rfl
  have ay3 := k1y 2 _ rfl
  have ay4 := k1y 3 _ rfl
  have ay5 := k1y 4 _ rfl
  have ay6 := k1y 5 _ rfl
  have ay7 := k1y 6 _ rfl
  simp only [Nat.zero_add, Nat.reduceAdd] at ay1 ay2 ay3 ay4 ay5 ay6 ay7
  have by11 : V8.cell? ⟨(wd.heap.size), 11, none⟩ = some (.slice (some py) k.th.length cty) := by rw [HBK_8.out.cell, xey]; rfl
  have by15 : V8.cell? ⟨(wd.heap.size), 15, none⟩ = some (.slice By k.od.length coy) := by rw [HBK_8.out.cell, xey]; rfl
  have ly := HBK_8.out.lt
  have lpy : (py.add (i * 8)).block < V8.heap.size := by rw [block_of_add]; exact hpy
  clear k0y k1y euy Xy roy xey
  rw [HLEN.out] at by11
  rw [ent] at bx11 by11
  have hi2 : i < nt := by rw [← ent]; exact HIL.out
  have HDX := Lib.hid HRTx.out.dn
  have HDY := Lib.hid HRTy.out.dn
  have HLX := Lib.hid HRTx.out.lf
  have HLY := Lib.hid HRTy.out.lf
  have eax : some px = some ph := by have q := bx11; rw [bh11] at q; injection q with q; injection q with q _ _; exact q.symm
  have eay : some py = some pk := by have q := by11; rw [bk11] at q; injection q with q; injection q with q _ _; exact q.symm
  injection eax with eax
  injection eay with eay
  subst eax eay
  clear bx11 bx15 by11 by15 lx ly mx1 mx2 mx3 mx4 mx5 mx6 my1 my2 my3 my4 my5 my6 gwx gax gbx gwy gay gby oox ooy hpx hpy mh6 ent
  generalize t.st.length = z1 at *
  generalize t'.st.length = z2 at *
  generalize t.lg.length = z4 at *
  generalize t'.lg.length = z5 at *
  generalize t.pd.length = z6 at *
  generalize t'.pd.length = z7 at *
  have q1 : decide ((nt : Int) ≤ (i : Int)) = false := decide_eq_false (by omega)
  have q2 : ((i : Int) == (j : Int)) = false := beq_eq_false_iff_ne.mpr (by have := HIJ.out; omega)
  have hi63 : i ≤ 9223372036854775807 := by omega
  go_upto_region 18 with fail
  go_quiet (fail)
  go_upto_region 22 with fail
  refine code_at (fun VZ hV => ?_)
  have kv : Up V8 VZ := by rw [hV]; (repeat (first | with_reducible exact Up.refl _ | with_reducible refine Up.alloc ?_ _ | with_reducible refine Up.drew ?_ | with_reducible refine Up.drewN ?_ _))
  clear hV
  have zbh11 := kv.cell bh11
  have zbk11 := kv.cell bk11
  have zax4 := kv.cell ax4
  have zax7 := kv.cell ax7
  have zay4 := kv.cell ay4
  have zay7 := kv.cell ay7
  have lzh := HBH_8.out.up kv |>.lt
  have lzk := HBK_8.out.up kv |>.lt
  have HAN := Lib.hid (fun m => quietW (ranss_yes _ _ s0.dn (VZ.drewN m) ((HDY.out.up kv).up ((Up.refl VZ).drewN m)) ((HDX.out.up kv).up ((Up.refl VZ).drewN m))))
  have HOP := Lib.hid (fun m => quietW (rops_yes _ _ s0.lf (VZ.drewN m) ((HLY.out.up kv).up ((Up.refl VZ).drewN m)) ((HLX.out.up kv).up ((Up.refl VZ).drewN m))))
  have HUZ := Lib.hid (HU_8.out.trans kv)
  clear kv bh11 bk11 ax0 ax1 ax2 ax3 ax4 ax5 ax6 ax7 ay0 ay1 ay2 ay3 ay4 ay5 ay6 ay7 ah0 ah1 ah2 ah3 ah4 ah5 ah6 ah7 ak0 ak1 ak2 ak3 ak4 ak5 ak6 ak7 o0 d0 d1 d2 bh15 bk15
  generalize s0.dn.length = y1 at *
  generalize s0.lf.length = y2 at *
  go_quiet ((first | (go_at_call 23; with_reducible exact HAN.out _) | (go_at_call 24; with_reducible exact HOP.out _)))
  go_wp2
  go_ret
  exact ⟨rfl, by (repeat (first | with_reducible exact HUZ.out | with_reducible refine Up.drewN ?_ _ | with_reducible refine Up.drew ?_))⟩
set_option maxRecDepth 100000 in
set_option maxHeartbeats 16000000 in
theorem walk {C : Array Value} {B : Nat} {L : Prop} {N : Int} {A0 A1 : Option Addr} {n0 n1 c0 c1 : Nat} {h : Hp} {vt vo : Value} {us : List Tv} (w : World) (hA : HeapAt w C B L N A0 A1 n0 n1 c0 c1 h vt vo us) (hL : L) (th : Int) (a : An) (oth : Int) :
    Calls Tryz.prog 8 #[.agg (C.toList ++ ([.int .i64 th, .int .i64 a.1, .int .u64 a.2.1, .bool a.2.2, .int .i64 oth] : List Value)).toArray] w fun e w' => e = .returned (.bool true) ∧ Up w w' := by
  have HF := hA.few
  by_cases hf : fewH N n0 n1 h = true
  · rw [hf] at HF
    obtain ⟨r, hN, hNn, hR, hG, hF0⟩ := hA.hp hf
    have hF := hF0 hL
    by_cases hin : 0 ≤ th ∧ th < h.th.length
    · obtain ⟨j, rfl⟩ : ∃ j : Nat, th = j := ⟨th.toNat, by omega⟩
      have hj : j < h.th.length := by omega
      rcases Nat.eq_zero_or_pos (h.th[j]).lf.length with hz | hz1
      · by_cases o0 : oth < 0
        · exact walk_in0neg C _ h j _ a oth w hA.size hA.one (in22 hA.size _ _ _) (Lib.hid HF) hR hF (List.getElem?_eq_getElem hj) hj hz o0
        by_cases o1 : (h.th.length : Int) ≤ oth
        · exact walk_in0big C _ h j _ a oth w hA.size hA.one (in22 hA.size _ _ _) (Lib.hid HF) hR hF (List.getElem?_eq_getElem hj) hj hz ⟨by omega, o1⟩
        by_cases o2 : oth = (j : Int)
        · exact walk_in0same C _ h j _ a oth w hA.size hA.one (in22 hA.size _ _ _) (Lib.hid HF) hR hF (List.getElem?_eq_getElem hj) hj hz o2
        obtain ⟨i, rfl⟩ : ∃ i : Nat, oth = i := ⟨oth.toNat, by omega⟩
        have hi : i < h.th.length := by omega
        exact walk_in0i C _ h j _ a (i : Int) w hA.size hA.one (in22 hA.size _ _ _) (Lib.hid HF) hR hF (List.getElem?_eq_getElem hj) hj hz i _ (Lib.hid hi) (Lib.hid (fun e => o2 (by rw [e]))) (Lib.hid (List.getElem?_eq_getElem hi)) rfl
      · have hz : ∃ n, (h.th[j]).lf.length = n + 1 := ⟨_, (Nat.succ_pred_eq_of_pos hz1).symm⟩
        by_cases o0 : oth < 0
        · exact walk_in1neg C _ h j _ a oth w hA.size hA.one (in22 hA.size _ _ _) (Lib.hid HF) hR hF (List.getElem?_eq_getElem hj) hj hz o0
        by_cases o1 : (h.th.length : Int) ≤ oth
        · exact walk_in1big C _ h j _ a oth w hA.size hA.one (in22 hA.size _ _ _) (Lib.hid HF) hR hF (List.getElem?_eq_getElem hj) hj hz ⟨by omega, o1⟩
        by_cases o2 : oth = (j : Int)
        · exact walk_in1same C _ h j _ a oth w hA.size hA.one (in22 hA.size _ _ _) (Lib.hid HF) hR hF (List.getElem?_eq_getElem hj) hj hz o2
        obtain ⟨i, rfl⟩ : ∃ i : Nat, oth = i := ⟨oth.toNat, by omega⟩
        have hi : i < h.th.length := by omega
        exact walk_in1i C _ h j _ a (i : Int) w hA.size hA.one (in22 hA.size _ _ _) (Lib.hid HF) hR hF (List.getElem?_eq_getElem hj) hj hz i _ (Lib.hid hi) (Lib.hid (fun e => o2 (by rw [e]))) (Lib.hid (List.getElem?_eq_getElem hi)) rfl
    · by_cases h0 : th < 0
      · exact walk_neg C _ h th a oth w hA.size hA.one (in22 hA.size _ _ _) (Lib.hid HF) hR hF (Lib.hid hin) h0
      · exact walk_big C _ h th a oth w hA.size hA.one (in22 hA.size _ _ _) (Lib.hid HF) hR hF (Lib.hid hin) (by omega)
  · have hf' : fewH N n0 n1 h = false := by simpa using hf
    rw [hf'] at HF
    exact walk_no C _ th a oth w hA.size hA.one (in22 hA.size _ _ _) (Lib.hid HF)
theorem own : ownKnob Tryz.prog.godebug = none := by kernel_rfl
set_option maxRecDepth 100000 in
theorem lifted (os : Os) (started : os.Started) (H : Type) (enc : TypeId × Value → H) :
    ReturnsInHanded {} Tryz.checked os 8 .any (Rows.actAnswersSpec.pre6 enc Tryz.prog Tryz.f8 Rows.actAnswersRow.domain false) (Rows.actAnswersSpec.post enc Tryz.prog Tryz.f8 false true false false) := by
  refine returnsInHanded_of_change_sized (C := Tryz.checked) own started (by kernel_rfl) Tryz.func8
    (ChangeSpec.witness6 (enc := enc) (C := Tryz.checked) false ⟨#[], #[.agg #[.int .i64 0, .slice none 0 0, .slice none 0 0, .int .i64 0, .int .i64 0, .int .i64 0, .int .i64 0, .int .i64 0, .int .i64 0, .int .i64 0, .int .i64 0, .slice none 0 0, .int .i64 0, .int .i64 0, .int .i64 0, .slice none 0 0, .int .i64 0, .int .i64 0, .int .i64 0, .int .u64 0, .bool false, .int .i64 0]], []⟩ 8 (by kernel_rfl) (by kernel_rfl) (by kernel_rfl) (by kernel_rfl)) ?_
  intro W base args ds gs before hval0 hW hcnd hsz0 _
  have hval : ∀ (j : Nat) t v, Tryz.f8.params[j]? = some t → args[j]? = some v → Value.okWide Tryz.prog W .any base t v := hval0
  have hW' := hW
  obtain ⟨p, q, hA0, hV, rfl, hfz, hnd⟩ := hW
  have hA : DataW.TrodAll enc Tryz.prog W 0 (fun _ => true) true Tryz.f8.params.toList args.toList ds p := hA0
  rw [Tryz.params8] at hA hval
  obtain ⟨v0, vs0, d0, ds0, p0, q0, hargs, rfl, rfl, h0, r0⟩ := trodAll_cons hA
  obtain ⟨rfl, rfl, rfl⟩ := trodAll_nil r0
  obtain rfl : args = #[v0] := by cases args; simp_all
  obtain ⟨rfl, rfl⟩ := trodVars_none hV
  have l0 : Light 69 d0 := fun n hn => by
    have := List.all_eq_true.1 hsz0 n (DataW.weights_mem_each (j := 0) (t := 69) (d := d0) (by kernel_rfl) rfl n hn)
    simpa using this
  clear hsz0
  have h0k := h0
  obtain ⟨C, B, L, N, A0, A1, n0, n1, c0, c1, hp, vt, vo, us, th, a, oth, rfl, hHA, hLL⟩ := ain_at (hval 0 69 v0 rfl rfl) h0
  clear hA0 hval0
  simp only [List.append_nil, List.nil_append] at hW'
  refine (walk W hHA (hLL l0) th a oth).mono fun e W' ⟨he, hg⟩ => ?_
  subst he
  exact ⟨_, rfl, post_below (pa := p0) (pv := []) hW' (fun _ _ _ => (trodAll_cons_mk (shut_bool Tryz.underlying4 _) trodAll_mk0))
    (fun sp hsp => by
      have t := (trodAll_cons_mk (trod_keeps (sp := sp) (by kernel_rfl) (of_decide_eq_true (by kernel_rfl)) h0k hg (fun x hx => hW'.lt x (by simp [hx])) (fun x hx => hsp x (by simp [hx]))) trodAll_mk0)
      simp only [List.append_nil, List.nil_append] at t
      exact t) (fun _ _ => rfl) (by simp)
    hg (ok_one (by kernel_rfl) rfl (okWide_bool_mk Tryz.underlying4 _))⟩

set_option maxRecDepth 100000 in
theorem over : Rows.actAnswersRow.holds Tryz.pinned (OpenSpec.ofChange Rows.actAnswersSpec) :=
  OpenClaim.holds_of_wide 8 Tryz.f8 rfl rfl rfl rfl rfl rfl rfl ⟨rfl, rfl, rfl, rfl, rfl⟩ rfl rfl rfl rfl rfl (by kernel_rfl) Tryz.func8 (by kernel_rfl)
    (of_decide_eq_true (by kernel_rfl)) (by unfold Func.isWrapper; first | (rw [if_pos (by decide +kernel)]; kernel_rfl) | (rw [if_neg (by decide +kernel)]; exact ⟨rfl, rfl⟩))
    (fun os started H enc _ => lifted os started H enc)

theorem proved : Rows.ActAnswersSaid :=
  over
#print axioms proved
end Go.Proofs.YtddoljfkbkbfjaaGreat.T.LActAnswers
