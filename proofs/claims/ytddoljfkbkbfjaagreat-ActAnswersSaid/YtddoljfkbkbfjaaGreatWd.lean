/- The document's example (dovecotelaw17.shown): contract. What a statement on heaps is handed: heaps and structs of heaps, opened; few of what was handed in. -/
import Derived.Test.YtddoljfkbkbfjaaGreatUj
import Derived.Test.YtddoljfkbkbfjaaGreatWb
import Derived.Test.YtddoljfkbkbfjaaGreatAm
import Derived.Deep.CutRange
import Derived.BigRegion
import Derived.Test.YtddoljfkbkbfjaaGreatWc
namespace Go.Proofs.YtddoljfkbkbfjaaGreat.T
open G
open Go.Joins Go.ChangeShapes Go.WideShapes Go.ChangeAt Go.RowKit Go.Deep Go.Shelf Go.Maps
set_option linter.unusedVariables false
set_option linter.unusedSimpArgs false

def o11 : Op := ⟨11, 0, 0, 0, 0, 0, 0, 0⟩
def t11 : Th := ⟨[], 0, 0, [], [o11], [], false, []⟩
def h11 (m : Me) : Hp := ⟨m, 0, 0, 16, 1, 0, 16, 0, 4, [t11], 0, 0, 0, [], 0⟩
def k11 (m : Me) : Hp := ⟨m, 0, 0, 16, 1, 0, 16, 0, 4, [{ t11 with wt := true }], 0, 0, 0, [], 0⟩
theorem did11 (m : Me) : didH (h11 m) 0 = k11 m ∧ canB (h11 m) 0 = true ∧ canB (k11 m) 0 = false := by
  refine ⟨?_, ?_, ?_⟩
  · unfold didH
    rw [if_pos (by simp [canB, h11, t11, canT, isW, o11])]
    simp [h11, k11, t11, o11, doH, deed]
  · simp [canB, h11, t11, canT, isW, o11]
  · simp [canB, k11, t11, canT, isW, o11]
def mz16 : Me := ⟨16, zers 16, zers 16⟩
theorem mz16_sits (w : World) (P Q : Addr) (h0 : Row w P (zers 16)) (h1 : Row w Q (zers 16)) : Sits w mz16 P Q 16 16 := ⟨⟨by decide, by decide, rfl, rfl⟩, by decide, by unfold maxLen; decide, by decide, by unfold maxLen; decide, h0, h1⟩
theorem zers_u64 : ∀ x ∈ zers 16, U64 x := fun x hx => by
  obtain ⟨_, rfl⟩ := List.mem_replicate.1 hx
  exact u64_0
theorem ex11 (W : World) (P Q : Addr) (G1 G2 : Nat) (hs : Sits W mz16 P Q 16 16) (b1 : Blk W G1 62 #[.int .i64 11, .int .i64 0, .int .i64 0, .int .i64 0, .int .u64 0, .int .i64 0, .int .i64 0, .int .u64 0])
    (b2 : Blk W G2 44 #[.slice none 0 0, .int .i64 0, .int .i64 0, .slice none 0 0, .slice (some ⟨G1, 0, none⟩) 1 1, .slice none 0 0, .bool false, .slice none 0 0]) :
    HpR W (.agg #[.int .i64 16, .slice (some P) 16 16, .slice (some Q) 16 16, .int .i64 0, .int .i64 0, .int .i64 16, .int .i64 1, .int .i64 0, .int .i64 16, .int .i64 0, .int .i64 4, .slice (some ⟨G2, 0, none⟩) 1 1, .int .i64 0, .int .i64 0, .int .i64 0, .slice none 0 0, .int .i64 0]) (h11 mz16) := by
  have hvt : Rc tvc W (.slice (some ⟨G2, 0, none⟩) 1 1) [⟨.slice none 0 0, 0, 0, .slice none 0 0, .slice (some ⟨G1, 0, none⟩) 1 1, .slice none 0 0, false, .slice none 0 0⟩] := ⟨_, 1, rfl, Nat.le_refl _, by unfold maxLen; decide, fun q => (by cases q), rv_of_blk b2 fun i v hv => by rw [List.getElem?_toArray]; exact hv⟩
  have hlf : Rc opc W (.slice (some ⟨G1, 0, none⟩) 1 1) [o11] := ⟨_, 1, rfl, Nat.le_refl _, by unfold maxLen; decide, fun q => (by cases q), rv_of_blk b1 fun i v hv => by rw [List.getElem?_toArray]; exact hv⟩
  have hr : ThsR W [⟨.slice none 0 0, 0, 0, .slice none 0 0, .slice (some ⟨G1, 0, none⟩) 1 1, .slice none 0 0, false, .slice none 0 0⟩] (h11 mz16).th := ⟨rfl, fun j u t h1 h2 => by
    have hj : j = 0 := by
      rcases Nat.eq_zero_or_pos j with q | q
      · exact q
      · rw [List.getElem?_eq_none (by simp only [List.length_cons, List.length_nil]; omega)] at h1; cases h1
    subst hj
    cases h1
    cases h2
    exact ⟨Rc.nil _ _, rfl, rfl, Rc.nil _ _, hlf, Rc.nil _ _, rfl, Rc.nil _ _⟩⟩
  have ho : Rc inc W (.slice none 0 0) (h11 mz16).od := Rc.nil _ _
  exact ⟨P, Q, 16, 16, _, _, _, rfl, hs, hvt, hr, ho⟩
theorem exF : HpF (h11 mz16) ∧ HpG (h11 mz16) := by
  have hF : HpF (h11 mz16) := ⟨fun t ht => by
    obtain rfl : t = t11 := by simpa [h11] using ht
    exact ⟨by simp [t11], by simp [t11], by simp [t11], by simp [t11], by simp [t11]⟩, by simp [h11], by simp [h11]⟩
  have hG : HpG (h11 mz16) := ⟨⟨zers_u64, zers_u64⟩, by unfold rgt h11; simp, rfl, fun t ht => by
    obtain rfl : t = t11 := by simpa [h11] using ht
    exact ⟨by simp [t11], by simp [t11, I64], by simp [t11, I64], by simp [t11], fun x hx => by
      obtain rfl : x = o11 := by simpa [t11] using hx
      simp [OkO, o11, I64, U64], by simp [t11]⟩, fun t ht => by
    obtain rfl : t = t11 := by simpa [h11] using ht
    exact .inl ⟨rfl, rfl⟩, fun t ht => by
    obtain rfl : t = t11 := by simpa [h11] using ht
    simp [t11]⟩
  exact ⟨hF, hG⟩
def MR (w : World) (v : Value) (wx : World) : Prop := ∃ (g : Nat) (P Q : Addr), v = .pointer (some ⟨g, 0, none⟩) ∧ Blk wx g 25 #[.int .i64 16, .slice (some P) 16 16, .slice (some Q) 16 16] ∧ Sits wx mz16 P Q 16 16 ∧ Up w wx
noncomputable def shown1 : Code := ((Tryz.f9.body.bind (findReg 1)).getD .skip)
set_option maxRecDepth 100000 in
set_option maxHeartbeats 2000000 in
theorem shown1_wp (w : World) (u0 u1 u2 u3 u4 u5 u6 u7 u8 u9 u10 u11 u12 u13 u14 u15 u16 u17 u18 u19 u20 u21 u22 u23 u24 u25 u26 u27 u28 u29 u30 u31 u32 u33 u34 u35 u36 u37 : Value) (K : Act → World → Prop) (Q0 : Exit → Act → World → Prop) (HK : Hid (∀ (v1 y4 y5 y6 y7 : Value) (wx : World), MR w v1 wx → K ⟨(u0 :: v1 :: u2 :: u3 :: y4 :: y5 :: y6 :: y7 :: u8 :: u9 :: u10 :: u11 :: u12 :: u13 :: u14 :: u15 :: u16 :: u17 :: u18 :: u19 :: u20 :: u21 :: u22 :: u23 :: u24 :: u25 :: u26 :: u27 :: u28 :: u29 :: u30 :: u31 :: u32 :: u33 :: u34 :: u35 :: u36 :: u37 :: []).toArray, []⟩ wx)) :
    Code.wp Tryz.prog shown1 (Exit.then K Q0) ⟨(u0 :: u1 :: u2 :: u3 :: u4 :: u5 :: u6 :: u7 :: u8 :: u9 :: u10 :: u11 :: u12 :: u13 :: u14 :: u15 :: u16 :: u17 :: u18 :: u19 :: u20 :: u21 :: u22 :: u23 :: u24 :: u25 :: u26 :: u27 :: u28 :: u29 :: u30 :: u31 :: u32 :: u33 :: u34 :: u35 :: u36 :: u37 :: []).toArray, []⟩ w := by
  have hmk : ∀ w : World, (Instr.makeSlice 22 (.int .i64 16) (.int .i64 16)).run Tryz.prog w = .ok (.slice (some ⟨w.heap.size, 0, none⟩) 16 16) (w.alloc (.cells (wds (zers 16)).toArray 54)) := make_is 16 (by decide)
  conv => arg 2; whnf
  go_region
  all_goals
    refine HK.out _ _ _ _ _ _ ?_
    obtain ⟨U0, B0, B1, B2⟩ := three rfl
    first
      | exact ⟨_, _, _, rfl, B0, mz16_sits _ _ _ (row_of_blk B1) (row_of_blk B2), U0⟩
      | exact ⟨_, _, _, rfl, B0, mz16_sits _ _ _ (row_of_blk B2) (row_of_blk B1), U0⟩
      | exact ⟨_, _, _, rfl, B1, mz16_sits _ _ _ (row_of_blk B0) (row_of_blk B2), U0⟩
      | exact ⟨_, _, _, rfl, B1, mz16_sits _ _ _ (row_of_blk B2) (row_of_blk B0), U0⟩
      | exact ⟨_, _, _, rfl, B2, mz16_sits _ _ _ (row_of_blk B0) (row_of_blk B1), U0⟩
      | exact ⟨_, _, _, rfl, B2, mz16_sits _ _ _ (row_of_blk B1) (row_of_blk B0), U0⟩
set_option maxRecDepth 100000 in
set_option maxHeartbeats 2000000 in
theorem shown17 (w : World) : Calls Tryz.prog 9 #[] w fun e w' => e = .returned (.bool true) ∧ Up w w' := by
  go_enter Tryz.func9, Tryz.ntmps9
  go_upto_region 1 with fail
  refine shown1_wp w _ _ _ _ _ _ _ _ _ _ _ _ _ _ _ _ _ _ _ _ _ _ _ _ _ _ _ _ _ _ _ _ _ _ _ _ _ _ _ _ (Lib.hid ?_)
  rintro v1 y4 y5 y6 y7 w1 ⟨g, P, Q, rfl, bM1, sM1, U1⟩
  have bM1c := bM1.cell
  have bM1l := bM1.lt
  go_wp2_with (with_reducible refine halt_at (o := ⟨_, Op.store 32 _ _, _, _, _, _⟩) ?_)
  unfold Halt
  obtain ⟨C, hC⟩ : ∃ C : Array Value, C = #[.int .i64 16, .slice (some P) 16 16, .slice (some Q) 16 16, .int .i64 0, .int .i64 0, .int .i64 16, .int .i64 1, .int .i64 0, .int .i64 16, .int .i64 0, .int .i64 4, .slice (some ⟨w1.heap.size + 1, 0, none⟩) 1 1, .int .i64 0, .int .i64 0, .int .i64 0, .slice none 0 0, .int .i64 0] := ⟨_, rfl⟩
  rw [← hC]
  refine heap_new (C := C) (by rfl) _ _ rfl rfl rfl rfl (by simp) (by rw [hC]; rfl) rfl (by rw [hC]; simp [Value.oneCell']) ?_
  simp only [put_none]
  refine list_at (fun V hV => ?_)
  have kv : Up w1 V := by rw [hV]; exact (((Up.refl w1).alloc _).alloc _).alloc _
  have bO : Blk V w1.heap.size 62 #[.int .i64 11, .int .i64 0, .int .i64 0, .int .i64 0, .int .u64 0, .int .i64 0, .int .i64 0, .int .u64 0] := by rw [hV]; exact ((Blk.new w1 _ _).alloc _).alloc _
  have bT : Blk V (w1.heap.size + 1) 44 #[.slice none 0 0, .int .i64 0, .int .i64 0, .slice none 0 0, .slice (some ⟨w1.heap.size, 0, none⟩) 1 1, .slice none 0 0, .bool false, .slice none 0 0] := by rw [hV]; exact (Blk.new' _ (by simp) _ _).alloc _
  have bH : Blk V (w1.heap.size + 1 + 1) 32 C := by rw [hV]; exact Blk.new' _ (by simp) _ _
  have hR := ex11 V P Q _ _ (sM1.up kv) bO bT
  rw [← hC] at hR
  have U2 := U1.trans kv
  have HD := Lib.hid (do_c hR exF.1 exF.2 0)
  have HR := Lib.hid hR
  rw [(did11 mz16).1] at HD
  generalize w1.heap.size + 1 + 1 = gH at *
  clear hV kv bO bT bM1 bM1c bM1l sM1 U1 hC
  go_wp2_with (with_reducible refine halt_at (o := ⟨_, Op.load 32 _, _, _, _, _⟩) ?_)
  unfold Halt
  refine heap_load (by rfl) _ rfl rfl bH hR.size ?_
  go_wp2_with (fail)
  refine HD.out.mono ?_
  rintro e w2 ⟨K, rfl, hk, k2⟩
  have bH2 := bH.up k2
  have HR2 := Lib.hid (HR.out.up k2)
  have HU2 := Lib.hid (U2.trans k2)
  clear bH HR HD hR U2 k2
  go_wp2_with (with_reducible refine halt_at (o := ⟨_, Op.store 32 _ _, _, _, _, _⟩) ?_)
  unfold Halt
  refine heap_new (C := K) (by rfl) _ _ rfl rfl rfl rfl rfl hk.size rfl hk.one ?_
  simp only [put_none]
  refine list_at (fun V3 hV => ?_)
  have kv : Up w2 V3 := by rw [hV]; exact (Up.refl w2).alloc _
  have bK : Blk V3 w2.heap.size 32 K := by rw [hV]; exact Blk.new w2 _ _
  have bH3 := bH2.up kv
  have HR3 := Lib.hid (HR2.out.up kv)
  have HK3 := Lib.hid (hk.up kv)
  have HU3 := Lib.hid (HU2.out.trans kv)
  generalize w2.heap.size = gK at *
  clear hV kv bH2 HR2 hk HU2
  go_wp2_with (with_reducible refine halt_at (o := ⟨_, Op.load 32 _, _, _, _, _⟩) ?_)
  unfold Halt
  refine heap_load (by rfl) _ rfl rfl bH3 HR3.out.size ?_
  have hq := can_c HR3.out 0
  rw [(did11 mz16).2.1] at hq
  have HQ := Lib.hid hq
  clear hq
  go_wp2_with (fail)
  refine HQ.out.mono ?_
  rintro e w4 ⟨rfl, k4⟩
  have bK4 := bK.up k4
  have HK4 := Lib.hid (HK3.out.up k4)
  have HU4 := Lib.hid (HU3.out.trans k4)
  clear HQ bK bH3 HR3 HK3 HU3 k4
  go_wp2_with (with_reducible refine halt_at (o := ⟨_, Op.load 32 _, _, _, _, _⟩) ?_)
  unfold Halt
  refine heap_load (by rfl) _ rfl rfl bK4 HK4.out.size ?_
  have hq := can_c HK4.out 0
  rw [(did11 mz16).2.2] at hq
  have HQ := Lib.hid hq
  clear hq
  go_wp2_with (fail)
  refine HQ.out.mono ?_
  rintro e w5 ⟨rfl, k5⟩
  have bK5 := bK4.up k5
  have HU5 := Lib.hid (HU4.out.trans k5)
  obtain ⟨P2, Q2, c2, d2, A2, ct, us2, B2, co, X⟩ := (HK4.out.up k5).x
  rw [X.e] at bK5
  obtain ⟨u, hu0, hRt⟩ := X.t.at_ (j := 0) (t := { t11 with wt := true }) rfl
  obtain ⟨p2, rfl, hp2, k0, k1⟩ := rc_elem (k := 8) X.r (fun _ => rfl) (by decide) hu0
  have e6 := k1 5 _ rfl
  rw [Nat.zero_mul, Addr.add_zero'] at e6
  rw [show u.wt = true from hRt.wt] at e6
  have c11 : w5.cell? ⟨gK, 11, none⟩ = some (.slice (some p2) 1 ct) := by rw [bK5.cell]; rfl
  have hl := bK5.lt
  clear bK5 bK4 HK4 HQ X HU4 k5 k0 k1 hu0 hRt
  go_wp2
  go_ret
  exact ⟨rfl, HU5.out⟩
end Go.Proofs.YtddoljfkbkbfjaaGreat.T

namespace Go.Proofs.YtddoljfkbkbfjaaGreat.T
open G
open Go.Joins Go.ChangeShapes Go.WideShapes Go.ChangeAt Go.RowKit Go.Deep Go.Shelf Go.Maps
set_option linter.unusedVariables false
set_option linter.unusedSimpArgs false

/-- A heap that was handed in, its cells a letter. -/
structure HeapAt (w : World) (C : Array Value) (B : Nat) (L : Prop) (N : Int) (A0 A1 : Option Addr) (n0 n1 c0 c1 : Nat) (h : Hp) (vt vo : Value) (us : List Tv) : Prop where
  i : HpIn w C.toList B L N A0 A1 n0 n1 c0 c1 h vt vo us
section
variable {H : Type} {ec : TypeId × Value → H} {w : World}
set_option maxRecDepth 100000 in
theorem heap_at {r : Reach} {b0 : Nat} {v : Value} {d : DataW H} {p : List MemPlace} (hv : Value.okWide Tryz.prog w r b0 32 v) (h : DataW.Trod ec Tryz.prog w 0 (fun _ => true) true 32 v d p) :
    ∃ C N A0 A1 n0 n1 c0 c1 hp vt vo us, v = .agg C ∧ HeapAt w C (Rows.uptoBulk d) (Light 32 d) N A0 A1 n0 n1 c0 c1 hp vt vo us := by
  obtain ⟨⟨l⟩, rfl, hsz⟩ := okWide_struct Tryz.underlying32 hv
  obtain ⟨fuel, hf⟩ := h
  obtain ⟨N, A0, A1, n0, n1, c0, c1, hp, vt, vo, us, k⟩ := heap_cells (x := (d, p)) (cs := l) hf
  exact ⟨⟨l⟩, N, A0, A1, n0, n1, c0, c1, hp, vt, vo, us, rfl, ⟨k⟩⟩
end
section
variable {w : World} {C : Array Value} {B : Nat} {L : Prop} {N : Int} {A0 A1 : Option Addr} {n0 n1 c0 c1 : Nat} {h : Hp} {vt vo : Value} {us : List Tv}
theorem HeapAt.few (k : HeapAt w C B L N A0 A1 n0 n1 c0 c1 h vt vo us) (W : World) (u : Up w W) : Calls Tryz.prog 10 #[.agg C] W fun e w' => e = .returned (.bool (fewH N n0 n1 h)) ∧ Up W w' := by
  have e : C = #[.int .i64 N, .slice A0 n0 c0, .slice A1 n1 c1, .int .i64 h.fs, .int .i64 h.fa, .int .i64 h.fl, .int .i64 h.ts, .int .i64 h.ta, .int .i64 h.tl, .int .i64 h.sz, .int .i64 h.lg, vt, .int .i64 h.ph, .int .i64 h.sc, .int .i64 h.fp, vo, .int .i64 h.bk] := by
    have := k.i.cs
    rw [← this]
  rw [e]
  exact few_any h N A0 A1 n0 n1 c0 c1 vt vo us W (k.i.vt.up u) (k.i.th.up u) (k.i.vo.up u)
theorem HeapAt.size (k : HeapAt w C B L N A0 A1 n0 n1 c0 c1 h vt vo us) : C.size = 17 := by
  have := k.i.cs
  rw [← Array.length_toList, this]
  rfl
theorem HeapAt.one (k : HeapAt w C B L N A0 A1 n0 n1 c0 c1 h vt vo us) : C.all (·.oneCell') = true := by
  have e : C = #[.int .i64 N, .slice A0 n0 c0, .slice A1 n1 c1, .int .i64 h.fs, .int .i64 h.fa, .int .i64 h.fl, .int .i64 h.ts, .int .i64 h.ta, .int .i64 h.tl, .int .i64 h.sz, .int .i64 h.lg, vt, .int .i64 h.ph, .int .i64 h.sc, .int .i64 h.fp, vo, .int .i64 h.bk] := by
    have := k.i.cs
    rw [← this]
  obtain ⟨A, n, q, -⟩ := k.i.vt
  obtain ⟨B, m, q2, -⟩ := k.i.vo
  rw [e, q, q2]
  simp [Value.oneCell']
/-- A few heap, read as a heap. -/
theorem HeapAt.hp (k : HeapAt w C B L N A0 A1 n0 n1 c0 c1 h vt vo us) (hf : fewH N n0 n1 h = true) : RgP N n0 n1 h ∧ N ≤ 200 ∧ (h.m.n : Int) = N ∧ HpR w (.agg C) h ∧ HpG h ∧ (L → HpF h) := by
  unfold fewH at hf
  rw [Bool.and_eq_true] at hf
  have r := rgH_of hf.1
  have hN : N ≤ 200 := of_decide_eq_true hf.2
  have hrt : 16 ≤ N ∧ N ≤ 4096 ∧ (n0 : Int) = N ∧ (n1 : Int) = N := by
    have := r.m
    unfold rt at this
    exact of_decide_eq_true this
  have i := k.i
  have e0 : n0 = h.m.n := by have := i.mn; omega
  have e1 : n1 = h.m.n := by have := i.mn; omega
  have hNn : (h.m.n : Int) = N := by have := i.mn; omega
  have hx := i.x
  have hy := i.y
  rw [e0] at hx
  rw [e1] at hy
  obtain ⟨p, q, ep, eq, hs⟩ := sits_of hx hy (by omega) (by omega)
  refine ⟨r, hN, hNn, ⟨p, q, c0, c1, vt, vo, us, ?_, hs, i.vt, i.th, i.vo⟩, ⟨sits_wf hx hy, of_decide_eq_true r.f, by rw [r.fl, hNn], i.ok, fun t ht => (r.th t ht).1, fun t ht => (r.th t ht).2⟩, fun hL => ⟨fun t ht => ?_, r.n1, ?_⟩⟩
  · have e : C = #[.int .i64 N, .slice A0 n0 c0, .slice A1 n1 c1, .int .i64 h.fs, .int .i64 h.fa, .int .i64 h.fl, .int .i64 h.ts, .int .i64 h.ta, .int .i64 h.tl, .int .i64 h.sz, .int .i64 h.lg, vt, .int .i64 h.ph, .int .i64 h.sc, .int .i64 h.fp, vo, .int .i64 h.bk] := by
      have := i.cs
      rw [← this]
    rw [e, ep, eq, e0, e1, ← hNn]
    rfl
  · have l := (i.li hL).1 t ht
    exact ⟨by have := l.st; omega, by have := l.lg; omega, by have := l.lf; omega, by have := l.pd; omega, by have := l.dn; omega⟩
  · have := (i.li hL).2
    omega
/-- How long its rows may be: a step later, too. -/
structure HpL (h : Hp) : Prop where
  th : ∀ t ∈ h.th, ThL t
  n : h.th.length ≤ 4
  od : h.od.length * 8 ≤ 140737488351232
theorem HeapAt.hpL (k : HeapAt w C B L N A0 A1 n0 n1 c0 c1 h vt vo us) (hf : fewH N n0 n1 h = true) (hL : L) : HpL h :=
  ⟨(k.i.li hL).1, (k.hp hf).1.n1, (k.i.li hL).2⟩
end
end Go.Proofs.YtddoljfkbkbfjaaGreat.T
