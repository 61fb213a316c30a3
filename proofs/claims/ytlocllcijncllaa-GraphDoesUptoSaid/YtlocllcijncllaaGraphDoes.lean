/- GraphDoes, of all graphs that a machine can hold: it tells true, and changes nothing that it was handed. -/
import Derived.Test.YtlocllcijncllaaCz
import Derived.Test.YtlocllcijncllaaDh
import Derived.Test.YtlocllcijncllaaDk
import Derived.Test.YtlocllcijncllaaRg
import Derived.Test.YtlocllcijncllaaSg
import Derived.Test.YtlocllcijncllaaOq
namespace Go.Proofs.Ytlocllcijncllaa.LGraphDoes
open Go.Joins Go.ChangeShapes Go.WideShapes Go.ChangeAt Go.RowKit Go.Deep Go.Shelf Go.Maps
set_option linter.unusedVariables false
set_option linter.unusedSimpArgs false

set_option maxRecDepth 100000 in
theorem graph_at {H : Type} {enc : TypeId × Value → H} {w : World} {r : Reach} {b0 : Nat} {v : Value} {d : DataW H} {p : List MemPlace} (hv : Value.okWide Try.prog w r b0 25 v) (h : DataW.Trod enc Try.prog w 0 (fun _ => true) true 25 v d p) :
    ∃ g, GrV w v g ∧ GrIn g (Rows.uptoBulk d) := by
  obtain ⟨⟨l⟩, rfl, hsz⟩ := okWide_struct Try.underlying25 hv
  obtain ⟨fuel, hf⟩ := h
  obtain ⟨a, b, g, e, h1, h2⟩ := graph_cells (x := (d, p)) (cs := l) hf
  subst e
  exact ⟨g, h1, h2⟩
set_option maxRecDepth 100000 in
theorem op_at {H : Type} {enc : TypeId × Value → H} {w : World} {r : Reach} {b0 : Nat} {v : Value} {d : DataW H} {p : List MemPlace} (hv : Value.okWide Try.prog w r b0 30 v) (h : DataW.Trod enc Try.prog w 0 (fun _ => true) true 30 v d p) :
    ∃ kd hh i k u t l m : Int, v = .agg #[.int .i64 kd, .int .i64 hh, .int .i64 i, .int .i64 k, .int .u64 u, .int .i64 t, .int .i64 l, .int .u64 m] ∧ I64 kd ∧ I64 hh ∧ I64 i ∧ I64 k ∧ U64 u ∧ U64 m := by
  obtain ⟨⟨l⟩, rfl, hsz⟩ := okWide_struct Try.underlying30 hv
  obtain ⟨fuel, hf⟩ := h
  obtain ⟨a0, a1, a2, a3, a4, a5, a6, a7, e, r⟩ := op_cells (x := (d, p)) (cs := l) hf
  subst e
  exact ⟨a0, a1, a2, a3, a4, a5, a6, a7, rfl, r⟩
theorem cells_in : Try.prog.cellsOf 32 = 14 := by kernel_rfl
set_option maxRecDepth 100000 in
set_option maxHeartbeats 1000000 in
theorem in_cells {H : Type} {enc : TypeId × Value → H} {w : World} {fuel : Nat} {cs : List Value} {x : DataW H × List MemPlace} (h : DataW.trod enc Try.prog w 0 (fun _ => true) true fuel 32 cs = some x) : ∃ (Ag Bg : Option Addr) (Cg Dg : Nat) (g : Gr) (th : Int) (kd hh ii kk vv tt ll mm : Int) (Ao Bo : Option Addr) (Co Do : Nat) (o : Gr) (nt : Int), cs = [.slice Ag g.1.length Cg, .slice Bg g.2.length Dg, .int .i64 th, .int .i64 kd, .int .i64 hh, .int .i64 ii, .int .i64 kk, .int .u64 vv, .int .i64 tt, .int .i64 ll, .int .u64 mm, .slice Ao o.1.length Co, .slice Bo o.2.length Do, .int .i64 nt] ∧ GrV w (.agg #[.slice Ag g.1.length Cg, .slice Bg g.2.length Dg]) g ∧ GrIn g (Rows.uptoBulk x.1) ∧ (∀ row ∈ g.2, ∀ h ∈ row, I64 h) ∧ I64 th ∧ I64 kd ∧ U64 vv ∧ U64 mm ∧ GrV w (.agg #[.slice Ao o.1.length Co, .slice Bo o.2.length Do]) o ∧ GrIn o (Rows.uptoBulk x.1) ∧ I64 nt := by
  obtain ⟨ys, n, _, hd, hcl, hlen, hg⟩ := DataW.trod_struct Try.underlying32 h
  rw [cells_in] at hcl
  match cs, hcl with
  | [c0, c1, c2, c3, c4, c5, c6, c7, c8, c9, c10, c11, c12, c13], _ =>
    have f0 := hg 0 _ rfl
    have f1 := hg 1 _ rfl
    have f2 := hg 2 _ rfl
    have f3 := hg 3 _ rfl
    have f4 := hg 4 _ rfl
    match ys, hlen with
    | [y0, y1, y2, y3, y4], _ =>
      change DataW.trod enc Try.prog w 0 (fun _ => true) true n 25 (([c0, c1, c2, c3, c4, c5, c6, c7, c8, c9, c10, c11, c12, c13].drop 0).take (Try.prog.cellsOf 25)) = some y0 at f0
      rw [cells_graph] at f0
      change DataW.trod enc Try.prog w 0 (fun _ => true) true n 3 (([c0, c1, c2, c3, c4, c5, c6, c7, c8, c9, c10, c11, c12, c13].drop 2).take (Try.prog.cellsOf 3)) = some y1 at f1
      rw [cells_int] at f1
      change DataW.trod enc Try.prog w 0 (fun _ => true) true n 30 (([c0, c1, c2, c3, c4, c5, c6, c7, c8, c9, c10, c11, c12, c13].drop 3).take (Try.prog.cellsOf 30)) = some y2 at f2
      rw [cells_op] at f2
      change DataW.trod enc Try.prog w 0 (fun _ => true) true n 25 (([c0, c1, c2, c3, c4, c5, c6, c7, c8, c9, c10, c11, c12, c13].drop 11).take (Try.prog.cellsOf 25)) = some y3 at f3
      rw [cells_graph] at f3
      change DataW.trod enc Try.prog w 0 (fun _ => true) true n 3 (([c0, c1, c2, c3, c4, c5, c6, c7, c8, c9, c10, c11, c12, c13].drop 13).take (Try.prog.cellsOf 3)) = some y4 at f4
      rw [cells_int] at f4
      obtain ⟨a0, b0, g0, e, hg0, hi0, hz0⟩ := graph_cells2 (cs := [c0, c1]) f0
      simp only [List.cons.injEq, and_true] at e
      obtain ⟨rfl, rfl⟩ := e
      obtain ⟨A0, C0, B0, D0, e, -⟩ := hg0.form
      have e := congrArg (fun v => match v with | Value.agg l => l.toList | _ => []) e
      simp only [List.cons.injEq, and_true] at e
      obtain ⟨rfl, rfl⟩ := e
      obtain ⟨a1, rfl, h1⟩ := int_at (v := c2) f1
      obtain ⟨k2, p2, q2, r2, u2, t2, l2, m2, e, z2, -, -, -, y2', h2⟩ := op_cells (cs := [c3, c4, c5, c6, c7, c8, c9, c10]) f2
      simp only [List.cons.injEq, and_true] at e
      obtain ⟨rfl, rfl, rfl, rfl, rfl, rfl, rfl, rfl⟩ := e
      obtain ⟨a3, b3, g3, e, hg3, hi3⟩ := graph_cells (cs := [c11, c12]) f3
      simp only [List.cons.injEq, and_true] at e
      obtain ⟨rfl, rfl⟩ := e
      obtain ⟨A3, C3, B3, D3, e, -⟩ := hg3.form
      have e := congrArg (fun v => match v with | Value.agg l => l.toList | _ => []) e
      simp only [List.cons.injEq, and_true] at e
      obtain ⟨rfl, rfl⟩ := e
      obtain ⟨a4, rfl, h4⟩ := int_at (v := c13) f4
      obtain ⟨d, p⟩ := x
      simp only [Prod.mk.injEq] at hd
      obtain ⟨rfl, -⟩ := hd
      refine ⟨A0, B0, C0, D0, g0, a1, k2, p2, q2, r2, u2, t2, l2, m2, A3, B3, C3, D3, g3, a4, rfl, hg0, ⟨hi0.nd, ?_⟩, hz0, h1, z2, y2', h2, hg3, ⟨hi3.nd, ?_⟩, h4⟩
      · have := hi0.st
        simp only [Rows.uptoBulk, List.map_cons, List.map_nil, Rows.uptoBulkAll]
        omega
      · have := hi3.st
        simp only [Rows.uptoBulk, List.map_cons, List.map_nil, Rows.uptoBulkAll]
        omega
set_option maxRecDepth 100000 in
theorem in_at {H : Type} {enc : TypeId × Value → H} {w : World} {r : Reach} {b0 : Nat} {v : Value} {d : DataW H} {p : List MemPlace} (hv : Value.okWide Try.prog w r b0 32 v) (h : DataW.Trod enc Try.prog w 0 (fun _ => true) true 32 v d p) : ∃ (Ag Bg : Option Addr) (Cg Dg : Nat) (g : Gr) (th : Int) (kd hh ii kk vv tt ll mm : Int) (Ao Bo : Option Addr) (Co Do : Nat) (o : Gr) (nt : Int), v = .agg #[.slice Ag g.1.length Cg, .slice Bg g.2.length Dg, .int .i64 th, .int .i64 kd, .int .i64 hh, .int .i64 ii, .int .i64 kk, .int .u64 vv, .int .i64 tt, .int .i64 ll, .int .u64 mm, .slice Ao o.1.length Co, .slice Bo o.2.length Do, .int .i64 nt] ∧ GrV w (.agg #[.slice Ag g.1.length Cg, .slice Bg g.2.length Dg]) g ∧ GrIn g (Rows.uptoBulk d) ∧ (∀ row ∈ g.2, ∀ h ∈ row, I64 h) ∧ I64 th ∧ I64 kd ∧ U64 vv ∧ U64 mm ∧ GrV w (.agg #[.slice Ao o.1.length Co, .slice Bo o.2.length Do]) o ∧ GrIn o (Rows.uptoBulk d) ∧ I64 nt := by
  obtain ⟨⟨l⟩, rfl, hsz⟩ := okWide_struct Try.underlying32 hv
  obtain ⟨fuel, hf⟩ := h
  obtain ⟨Ag, Bg, Cg, Dg, g, th, kd, hh, ii, kk, vv, tt, ll, mm, Ao, Bo, Co, Do, o, nt, e, hr⟩ := in_cells (x := (d, p)) (cs := l) hf
  subst e
  exact ⟨Ag, Bg, Cg, Dg, g, th, kd, hh, ii, kk, vv, tt, ll, mm, Ao, Bo, Co, Do, o, nt, rfl, hr⟩
/-- Canon's contract, as it is wanted. -/
def Cq (K : Gr) (w : World) (en : Ending) (w' : World) : Prop := ∃ A c B d, en = .returned (.agg #[.slice A K.1.length c, .slice B K.2.length d]) ∧ GrV w' (.agg #[.slice A K.1.length c, .slice B K.2.length d]) K ∧ Up w w'
theorem can_any (g : Gr) (hg : Ok g) (W : World) (u : Value) (hu : GrV W u g) : Calls Try.prog 20 #[u] W (Cq (canon g) W) := by
  refine (canon_any u g W hu hg.rg hg.n (hg.rg.fit (by have := hg.n; omega) (by have := hg.s; omega) (by have := hg.b; omega))).mono ?_
  rintro e w' ⟨v, rfl, h, k⟩
  obtain ⟨A, c, B, d, rfl, -, -⟩ := h.form
  exact ⟨A, c, B, d, rfl, h, k⟩
theorem rcan_any (g : Gr) (hg : Ok g) (W : World) (u : Value) (hu : GrV W u g) : Calls Try.prog 21 #[u] W (Cq (canon g) W) := by
  refine (rcanon_any u g W hu hg.rg hg.n (hg.rg.fit (by have := hg.n; omega) (by have := hg.s; omega) (by have := hg.b; omega))).mono ?_
  rintro e w' ⟨v, rfl, h, k⟩
  obtain ⟨A, c, B, d, rfl, -, -⟩ := h.form
  exact ⟨A, c, B, d, rfl, h, k⟩
theorem rdo_let {g : Gr} {th kd h i k v t l m : Int} {kn : List Nd} {ks : List (List Int)} {n s : Nat} {e x : Int} {y : Bool} (hg : Ok g) (hv : U64 v) (hm : U64 m) (hd : doG g th ⟨kd, h, i, k, v, t, l, m⟩ = ((kn, ks), (e, x, y))) (hn : kn.length = n) (hs : ks.length = s) (W : World) (u : Value) (hu : GrV W u g) :
    Calls Try.prog 19 #[u, .int .i64 th, .agg #[.int .i64 kd, .int .i64 h, .int .i64 i, .int .i64 k, .int .u64 v, .int .i64 t, .int .i64 l, .int .u64 m]] W (Dn kn ks n s e x y W) := by
  have h1 := rdo_any u g th kd h i k v t l m W hu hg.rg (by have := hg.n; omega) (by have := hg.s; omega) (hg.rg.fit (by have := hg.n; omega) (by have := hg.s; omega) (by have := hg.b; omega)) hv hm
  rw [hd] at h1
  refine h1.mono ?_
  rintro en w' ⟨v', rfl, h2, h3⟩
  obtain ⟨A, c, B, d, rfl, -, -⟩ := h2.form
  have e1 : (kn, ks).1.length = n := hn
  have e2 : (kn, ks).2.length = s := hs
  rw [e1, e2] at h2 ⊢
  exact ⟨A, c, B, d, rfl, h2, h3⟩
set_option maxRecDepth 100000 in
set_option maxHeartbeats 8000000 in
theorem walk (Ag : Option Addr) (Bg : Option Addr) (Cg : Nat) (Dg : Nat) (g : Gr) (th : Int) (kd : Int) (hh : Int) (ii : Int) (kk : Int) (vv : Int) (tt : Int) (ll : Int) (mm : Int) (Ao : Option Addr) (Bo : Option Addr) (Co : Nat) (Do : Nat) (o : Gr) (nt : Int) (B : Nat) (w : World) (hg : GrV w (.agg #[.slice Ag g.1.length Cg, .slice Bg g.2.length Dg]) g) (hi : GrIn g B) (hzg : ∀ row ∈ g.2, ∀ h ∈ row, I64 h) (oth : I64 th) (o1 : I64 kd) (o5 : U64 vv) (o6 : U64 mm) (ho : GrV w (.agg #[.slice Ao o.1.length Co, .slice Bo o.2.length Do]) o) (hio : GrIn o B) (ont : I64 nt) (hB : B ≤ 1048576) :
    Calls Try.prog 3 #[.agg #[.slice Ag g.1.length Cg, .slice Bg g.2.length Dg, .int .i64 th, .int .i64 kd, .int .i64 hh, .int .i64 ii, .int .i64 kk, .int .u64 vv, .int .i64 tt, .int .i64 ll, .int .u64 mm, .slice Ao o.1.length Co, .slice Bo o.2.length Do, .int .i64 nt]] w fun e w' => e = .returned (.bool true) ∧ Up w w' := by
  obtain ⟨_, _, _, _, -, m1, m2⟩ := hg.form
  obtain ⟨_, _, _, _, -, m3, m4⟩ := ho.form
  have HSH := Lib.hid shown_any
  have HFW := Lib.hid (fun W' (u : GrV W' (.agg #[.slice Ag g.1.length Cg, .slice Bg g.2.length Dg]) g) => few_any (.agg #[.slice Ag g.1.length Cg, .slice Bg g.2.length Dg]) g W' u hi.nd)
  have HR1 := Lib.hid (fun W' (u : GrV W' (.agg #[.slice Ag g.1.length Cg, .slice Bg g.2.length Dg]) g) => right_g (.agg #[.slice Ag g.1.length Cg, .slice Bg g.2.length Dg]) g W' u (fun n hm => (hi.nd n hm).1) hzg)
  have HR2 := Lib.hid (fun W' (u : GrV W' (.agg #[.slice Ag g.1.length Cg, .slice Bg g.2.length Dg]) g) => rright15_any (.agg #[.slice Ag g.1.length Cg, .slice Bg g.2.length Dg]) g W' u (fun n hm => (hi.nd n hm).1))
  have HS := Lib.hid (fun (K : Gr) W u z (hu : GrV W u K) (hz : GrV W z K) => by
    have h := rsame_any u z K K W hu hz
    rw [decide_eq_true rfl] at h
    exact h)
  by_cases hf : fewB g = true
  · have hF := (few_of hf hi).okk hB
    have hok := hF.ok (by omega)
    obtain ⟨kn, ks, n1, s1, e, x, y, hd, hq1, hq2, D1⟩ := do_let g th kd hh ii kk vv tt ll mm hok o1 o5 o6
    have D1 := Lib.hid D1
    have D2 := Lib.hid (fun W u hu => rdo_let hok o5 o6 hd hq1 hq2 W u hu)
    have HC1 := Lib.hid (fun W u hu => can_any g hok W u hu)
    have HC2 := Lib.hid (fun W u hu => rcan_any g hok W u hu)
    have HE1 := Lib.hid (fun W u z (hu : GrV W u g) (hz : GrV W z o) => same_g u z g o W hu hz)
    have HE2 := Lib.hid (fun W u z (hu : GrV W u g) (hz : GrV W z o) => rsame_any u z g o W hu hz)
    have hea := eq_ans e x y e x y
    rw [decide_eq_true ⟨rfl, rfl, rfl⟩] at hea
    obtain ⟨bb, hbb⟩ : ∃ bb, decide (g = o) = bb := ⟨_, rfl⟩
    rw [hbb] at HE1 HE2
    have hbe : (bb == bb) = true := by simp
    rw [rgB_of hF.rg] at HR1 HR2
    rw [hf] at HFW
    have sg0 := hg
    have so0 := ho
    clear hg ho hf hok hF hd hq1 hq2 hbb hi hio hzg
    generalize canon g = K1 at *
    generalize o.1.length = on at *
    generalize o.2.length = os at *
    generalize g.1.length = n at *
    generalize g.2.length = s at *
    go_enter Try.func3, Try.ntmps3
    go_wp2_with (fail)
    refine calls_at (fun V1 hV => ?_)
    have kv : Up w V1 := by rw [hV]; (repeat (first | with_reducible exact Up.refl _ | with_reducible refine Up.alloc ?_ _ | with_reducible refine Up.drew ?_ | refine Up.setCell ?_ (by simp <;> omega) _))
    have bSv : Blk V1 (w.heap.size) 32 #[.slice Ag n Cg, .slice Bg s Dg, .int .i64 th, .int .i64 kd, .int .i64 hh, .int .i64 ii, .int .i64 kk, .int .u64 vv, .int .i64 tt, .int .i64 ll, .int .u64 mm, .slice Ao on Co, .slice Bo os Do, .int .i64 nt] := by rw [hV]; (repeat (first | with_reducible exact Blk.new' _ (by simp) _ _ | with_reducible refine Blk.alloc ?_ _ | with_reducible refine Blk.drew ?_ | refine Blk.far ?_ (by simp <;> omega) _))
    have bGv : Blk V1 (w.heap.size + 1) 25 #[.slice Ag n Cg, .slice Bg s Dg] := by rw [hV]; (repeat (first | with_reducible exact Blk.new' _ (by simp) _ _ | with_reducible refine Blk.alloc ?_ _ | with_reducible refine Blk.drew ?_ | refine Blk.far ?_ (by simp <;> omega) _))
    have bOv : Blk V1 (w.heap.size + 1 + 1) 30 #[.int .i64 kd, .int .i64 hh, .int .i64 ii, .int .i64 kk, .int .u64 vv, .int .i64 tt, .int .i64 ll, .int .u64 mm] := by rw [hV]; (repeat (first | with_reducible exact Blk.new' _ (by simp) _ _ | with_reducible refine Blk.alloc ?_ _ | with_reducible refine Blk.drew ?_ | refine Blk.far ?_ (by simp <;> omega) _))
    have bXv : Blk V1 (w.heap.size + 1 + 1 + 1) 25 #[.slice Ao on Co, .slice Bo os Do] := by rw [hV]; (repeat (first | with_reducible exact Blk.new' _ (by simp) _ _ | with_reducible refine Blk.alloc ?_ _ | with_reducible refine Blk.drew ?_ | refine Blk.far ?_ (by simp <;> omega) _))
    have Uv : Up w V1 := kv
    have sgv := sg0.up kv
    have sov := so0.up kv
    clear hV kv sg0 so0
    refine (HSH.out V1).mono ?_
    rintro e w1 ⟨rfl, k1⟩
    have bS1 := bSv.up k1
    have bG1 := bGv.up k1
    have bO1 := bOv.up k1
    have bX1 := bXv.up k1
    have U1 := Uv.trans k1
    have sg1 := sgv.up k1
    have so1 := sov.up k1
    clear k1 Uv bSv bGv bOv bXv sgv sov
    have bS1c := bS1.cell
    have bS1f := bS1.frozen
    have bS1l := bS1.lt
    have bG1c := bG1.cell
    have bG1f := bG1.frozen
    have bG1l := bG1.lt
    have bO1c := bO1.cell
    have bO1f := bO1.frozen
    have bO1l := bO1.lt
    have bX1c := bX1.cell
    have bX1f := bX1.frozen
    have bX1l := bX1.lt
    go_wp2_with (fail)
    obtain ⟨W0, hW0⟩ : ∃ W0 : World, W0 = w1.drew := ⟨_, rfl⟩
    have U0 : Up W0 w1.drew := by rw [hW0]; exact Up.refl _
    have k0 : Up w1 W0 := by rw [hW0]; exact (Up.refl _).drew
    have bS0 := bS1.up k0
    have bG0 := bG1.up k0
    have bO0 := bO1.up k0
    have bX0 := bX1.up k0
    have sg0 := sg1.up k0
    have so0 := so1.up k0
    have UW0 := U1.trans k0
    clear hW0 k0 bS1 bS1c bS1f bS1l bG1 bG1c bG1f bG1l bO1 bO1c bO1f bO1l bX1 bX1c bX1f bX1l U1 sg1 so1
    go_region_held3 (fun w' => (∀ zi, w'.cell? ⟨w.heap.size + 1, zi, none⟩ = (#[.slice Ag n Cg, .slice Bg s Dg] : Array Value)[zi]?))
      (exact fun zi => (Blk.up bG0 (by assumption)).cell zi)
      (first
        | (go_at_call 12; ((with_reducible refine (HR1.out _ (sg0.up (by assumption))).mono ?_); rintro e wz ⟨rfl, hz⟩; have UZ := Up.trans (a := W0) (by assumption) hz))
        | (go_at_call 13; ((with_reducible refine (HR2.out _ (sg0.up (by assumption))).mono ?_); rintro e wz ⟨rfl, hz⟩; have UZ := Up.trans (a := W0) (by assumption) hz))
        | (go_at_call 15; ((with_reducible refine (new_any nt _).mono ?_); rintro e wz ⟨vA, rfl, sA, hz⟩; have UZ := Up.trans (a := W0) (by assumption) hz))
        | (go_at_call 16; ((with_reducible refine (rnew_any nt _).mono ?_); rintro e wz ⟨vB, rfl, sB, hz⟩; have UZ := Up.trans (a := W0) (by assumption) hz))
        | (go_at_call 14; ((with_reducible refine (HS.out (nullG nt) _ _ _ (sA.up (by assumption)) sB).mono ?_); rintro e wz ⟨rfl, hz⟩; have UZ := Up.trans (a := W0) (by assumption) hz))
        | (go_at_call 14; ((with_reducible refine (HS.out (nullG nt) _ _ _ sA (sB.up (by assumption))).mono ?_); rintro e wz ⟨rfl, hz⟩; have UZ := Up.trans (a := W0) (by assumption) hz)))
    all_goals
      obtain ⟨w2, hww⟩ : ∃ z : World, z = wz := ⟨_, rfl⟩
      subst hww
      have bS2 := bS0.up UZ
      have bG2 := bG0.up UZ
      have bO2 := bO0.up UZ
      have bX2 := bX0.up UZ
      have sg2 := sg0.up UZ
      have so2 := so0.up UZ
      have U2 := UW0.trans UZ
      clear bS0 bG0 bO0 bX0 sg0 so0
      have bS2c := bS2.cell
      have bS2f := bS2.frozen
      have bS2l := bS2.lt
      have bG2c := bG2.cell
      have bG2f := bG2.frozen
      have bG2l := bG2.lt
      have bO2c := bO2.cell
      have bO2f := bO2.frozen
      have bO2l := bO2.lt
      have bX2c := bX2.cell
      have bX2f := bX2.frozen
      have bX2l := bX2.lt
      go_wp2_with (fail)
      refine calls_at (fun V3 hV => ?_)
      have kv : Up w2 V3 := by rw [hV]; (repeat (first | with_reducible exact Up.refl _ | with_reducible refine Up.alloc ?_ _ | with_reducible refine Up.drew ?_ | refine Up.setCell ?_ (by simp <;> omega) _))
      have bSv := bS2.up kv
      have bGv := bG2.up kv
      have bOv := bO2.up kv
      have bXv := bX2.up kv
      have Uv : Up w V3 := U2.trans kv
      have sgv := sg2.up kv
      have sov := so2.up kv
      clear hV kv bS2 bS2c bS2f bS2l bG2 bG2c bG2f bG2l bO2 bO2c bO2f bO2l bX2 bX2c bX2f bX2l U2 sg2 so2
      refine (HFW.out V3 sgv).mono ?_
      rintro e w3 ⟨rfl, k3⟩
      have bS3 := bSv.up k3
      have bG3 := bGv.up k3
      have bO3 := bOv.up k3
      have bX3 := bXv.up k3
      have U3 := Uv.trans k3
      have sg3 := sgv.up k3
      have so3 := sov.up k3
      clear k3 Uv bSv bGv bOv bXv sgv sov
      have bS3c := bS3.cell
      have bS3f := bS3.frozen
      have bS3l := bS3.lt
      have bG3c := bG3.cell
      have bG3f := bG3.frozen
      have bG3l := bG3.lt
      have bO3c := bO3.cell
      have bO3f := bO3.frozen
      have bO3l := bO3.lt
      have bX3c := bX3.cell
      have bX3f := bX3.frozen
      have bX3l := bX3.lt
      go_wp2_with (fail)
      refine calls_at (fun V4 hV => ?_)
      have kv : Up w3 V4 := by rw [hV]; (repeat (first | with_reducible exact Up.refl _ | with_reducible refine Up.alloc ?_ _ | with_reducible refine Up.drew ?_ | refine Up.setCell ?_ (by simp <;> omega) _))
      have bSv := bS3.up kv
      have bGv := bG3.up kv
      have bOv := bO3.up kv
      have bXv := bX3.up kv
      have Uv : Up w V4 := U3.trans kv
      have sgv := sg3.up kv
      have sov := so3.up kv
      clear hV kv bS3 bS3c bS3f bS3l bG3 bG3c bG3f bG3l bO3 bO3c bO3f bO3l bX3 bX3c bX3f bX3l U3 sg3 so3
      refine (D1.out V4 _ sgv).mono ?_
      rintro e w4 ⟨AK, cK, BK, dK, rfl, sK4, k4⟩
      have bS4 := bSv.up k4
      have bG4 := bGv.up k4
      have bO4 := bOv.up k4
      have bX4 := bXv.up k4
      have U4 := Uv.trans k4
      have sg4 := sgv.up k4
      have so4 := sov.up k4
      clear k4 Uv bSv bGv bOv bXv sgv sov
      have bS4c := bS4.cell
      have bS4f := bS4.frozen
      have bS4l := bS4.lt
      have bG4c := bG4.cell
      have bG4f := bG4.frozen
      have bG4l := bG4.lt
      have bO4c := bO4.cell
      have bO4f := bO4.frozen
      have bO4l := bO4.lt
      have bX4c := bX4.cell
      have bX4f := bX4.frozen
      have bX4l := bX4.lt
      go_wp2_with (fail)
      refine calls_at (fun V5 hV => ?_)
      have kv : Up w4 V5 := by rw [hV]; (repeat (first | with_reducible exact Up.refl _ | with_reducible refine Up.alloc ?_ _ | with_reducible refine Up.drew ?_ | refine Up.setCell ?_ (by simp <;> omega) _))
      have bSv := bS4.up kv
      have bGv := bG4.up kv
      have bOv := bO4.up kv
      have bXv := bX4.up kv
      have bKv : Blk V5 (w4.heap.size) 25 #[.slice AK n1 cK, .slice BK s1 dK] := by rw [hV]; (repeat (first | with_reducible exact Blk.new' _ (by simp) _ _ | with_reducible refine Blk.alloc ?_ _ | with_reducible refine Blk.drew ?_ | refine Blk.far ?_ (by simp <;> omega) _))
      have bAv : Blk V5 (w4.heap.size + 1) 39 #[.int .i64 e, .int .u64 x, .bool y] := by rw [hV]; (repeat (first | with_reducible exact Blk.new' _ (by simp) _ _ | with_reducible refine Blk.alloc ?_ _ | with_reducible refine Blk.drew ?_ | refine Blk.far ?_ (by simp <;> omega) _))
      have Uv : Up w V5 := U4.trans kv
      have sgv := sg4.up kv
      have sov := so4.up kv
      have sKv := sK4.up kv
      clear hV kv bS4 bS4c bS4f bS4l bG4 bG4c bG4f bG4l bO4 bO4c bO4f bO4l bX4 bX4c bX4f bX4l U4 sg4 so4 sK4
      refine (D2.out V5 _ sgv).mono ?_
      rintro e w5 ⟨AL, cL, BL, dL, rfl, sL5, k5⟩
      have bS5 := bSv.up k5
      have bG5 := bGv.up k5
      have bO5 := bOv.up k5
      have bX5 := bXv.up k5
      have bK5 := bKv.up k5
      have bA5 := bAv.up k5
      have U5 := Uv.trans k5
      have sg5 := sgv.up k5
      have so5 := sov.up k5
      have sK5 := sKv.up k5
      clear k5 Uv bSv bGv bOv bXv bKv bAv sgv sov sKv
      have bS5c := bS5.cell
      have bS5f := bS5.frozen
      have bS5l := bS5.lt
      have bG5c := bG5.cell
      have bG5f := bG5.frozen
      have bG5l := bG5.lt
      have bO5c := bO5.cell
      have bO5f := bO5.frozen
      have bO5l := bO5.lt
      have bX5c := bX5.cell
      have bX5f := bX5.frozen
      have bX5l := bX5.lt
      have bK5c := bK5.cell
      have bK5f := bK5.frozen
      have bK5l := bK5.lt
      have bA5c := bA5.cell
      have bA5f := bA5.frozen
      have bA5l := bA5.lt
      go_wp2_with (fail)
      obtain ⟨W0, hW0⟩ : ∃ W0 : World, W0 = ((w5.alloc (.cells #[.slice AL n1 cL, .slice BL s1 dL] 25)).alloc (.cells #[.int .i64 e, .int .u64 x, .bool y] 39)).drew := ⟨_, rfl⟩
      have U0 : Up W0 ((w5.alloc (.cells #[.slice AL n1 cL, .slice BL s1 dL] 25)).alloc (.cells #[.int .i64 e, .int .u64 x, .bool y] 39)).drew := by rw [hW0]; exact Up.refl _
      have k0 : Up w5 W0 := by rw [hW0]; exact (((Up.refl _).alloc _).alloc _).drew
      have bS0 := bS5.up k0
      have bG0 := bG5.up k0
      have bO0 := bO5.up k0
      have bX0 := bX5.up k0
      have bK0 := bK5.up k0
      have bA0 := bA5.up k0
      have bL0 : Blk W0 (w5.heap.size) 25 #[.slice AL n1 cL, .slice BL s1 dL] := by rw [hW0]; exact Blk.drew ((Blk.new' _ (by simp) _ _).alloc _)
      have bB0 : Blk W0 (w5.heap.size + 1) 39 #[.int .i64 e, .int .u64 x, .bool y] := by rw [hW0]; exact Blk.drew (Blk.new' _ (by simp) _ _)
      have sg0 := sg5.up k0
      have so0 := so5.up k0
      have sK0 := sK5.up k0
      have sL0 := sL5.up k0
      have UW0 := U5.trans k0
      clear hW0 k0 bS5 bS5c bS5f bS5l bG5 bG5c bG5f bG5l bO5 bO5c bO5f bO5l bX5 bX5c bX5f bX5l bK5 bK5c bK5f bK5l bA5 bA5c bA5f bA5l U5 sg5 so5 sK5 sL5
      go_region_held3 (fun w' => (∀ zi, w'.cell? ⟨w4.heap.size, zi, none⟩ = (#[.slice AK n1 cK, .slice BK s1 dK] : Array Value)[zi]?) ∧ (∀ zi, w'.cell? ⟨w5.heap.size, zi, none⟩ = (#[.slice AL n1 cL, .slice BL s1 dL] : Array Value)[zi]?) ∧ (∀ zi, w'.cell? ⟨w.heap.size + 1, zi, none⟩ = (#[.slice Ag n Cg, .slice Bg s Dg] : Array Value)[zi]?))
        (exact ⟨fun zi => (Blk.up bK0 (by assumption)).cell zi, fun zi => (Blk.up bL0 (by assumption)).cell zi, fun zi => (Blk.up bG0 (by assumption)).cell zi⟩)
        (first
          | (go_at_call 14; ((with_reducible refine (HS.out (kn, ks) _ _ _ (sK0.up (by assumption)) (sL0.up (by assumption))).mono ?_); rintro e wz ⟨rfl, hz⟩; have UZ := Up.trans (a := W0) (by assumption) hz))
          | (go_at_call 20; ((with_reducible refine (HC1.out _ _ (sg0.up (by assumption))).mono ?_); rintro e wz ⟨Aa, ca, Ba, da, rfl, sA, hz⟩; have UZ := Up.trans (a := W0) (by assumption) hz))
          | (go_at_call 21; ((with_reducible refine (HC2.out _ _ (sg0.up (by assumption))).mono ?_); rintro e wz ⟨Ab, cb, Bb, db, rfl, sB, hz⟩; have UZ := Up.trans (a := W0) (by assumption) hz))
          | (go_at_call 14; ((with_reducible refine (HS.out K1 _ _ _ (sA.up (by assumption)) sB).mono ?_); rintro e wz ⟨rfl, hz⟩; have UZ := Up.trans (a := W0) (by assumption) hz))
          | (go_at_call 14; ((with_reducible refine (HS.out K1 _ _ _ sA (sB.up (by assumption))).mono ?_); rintro e wz ⟨rfl, hz⟩; have UZ := Up.trans (a := W0) (by assumption) hz)))
      all_goals
        obtain ⟨w6, hww⟩ : ∃ z : World, z = wz := ⟨_, rfl⟩
        subst hww
        have bS6 := bS0.up UZ
        have bG6 := bG0.up UZ
        have bO6 := bO0.up UZ
        have bX6 := bX0.up UZ
        have bK6 := bK0.up UZ
        have bA6 := bA0.up UZ
        have bL6 := bL0.up UZ
        have bB6 := bB0.up UZ
        have sg6 := sg0.up UZ
        have so6 := so0.up UZ
        have sK6 := sK0.up UZ
        have sL6 := sL0.up UZ
        have U6 := UW0.trans UZ
        clear bS0 bG0 bO0 bX0 bK0 bA0 bL0 bB0 sg0 so0 sK0 sL0
        have bS6c := bS6.cell
        have bS6f := bS6.frozen
        have bS6l := bS6.lt
        have bG6c := bG6.cell
        have bG6f := bG6.frozen
        have bG6l := bG6.lt
        have bO6c := bO6.cell
        have bO6f := bO6.frozen
        have bO6l := bO6.lt
        have bX6c := bX6.cell
        have bX6f := bX6.frozen
        have bX6l := bX6.lt
        have bK6c := bK6.cell
        have bK6f := bK6.frozen
        have bK6l := bK6.lt
        have bA6c := bA6.cell
        have bA6f := bA6.frozen
        have bA6l := bA6.lt
        have bL6c := bL6.cell
        have bL6f := bL6.frozen
        have bL6l := bL6.lt
        have bB6c := bB6.cell
        have bB6f := bB6.frozen
        have bB6l := bB6.lt
        go_wp2_with (fail)
        obtain ⟨W0, hW0⟩ : ∃ W0 : World, W0 = w6.drew := ⟨_, rfl⟩
        have U0 : Up W0 w6.drew := by rw [hW0]; exact Up.refl _
        have k0 : Up w6 W0 := by rw [hW0]; exact (Up.refl _).drew
        have bS0 := bS6.up k0
        have bG0 := bG6.up k0
        have bO0 := bO6.up k0
        have bX0 := bX6.up k0
        have bK0 := bK6.up k0
        have bA0 := bA6.up k0
        have bL0 := bL6.up k0
        have bB0 := bB6.up k0
        have sg0 := sg6.up k0
        have so0 := so6.up k0
        have sK0 := sK6.up k0
        have sL0 := sL6.up k0
        have UW0 := U6.trans k0
        clear hW0 k0 bS6 bS6c bS6f bS6l bG6 bG6c bG6f bG6l bO6 bO6c bO6f bO6l bX6 bX6c bX6f bX6l bK6 bK6c bK6f bK6l bA6 bA6c bA6f bA6l bL6 bL6c bL6f bL6l bB6 bB6c bB6f bB6l U6 sg6 so6 sK6 sL6
        go_region_held3 (fun w' => (∀ zi, w'.cell? ⟨w4.heap.size + 1, zi, none⟩ = (#[.int .i64 e, .int .u64 x, .bool y] : Array Value)[zi]?) ∧ (∀ zi, w'.cell? ⟨w5.heap.size + 1, zi, none⟩ = (#[.int .i64 e, .int .u64 x, .bool y] : Array Value)[zi]?) ∧ (∀ zi, w'.cell? ⟨w.heap.size + 1, zi, none⟩ = (#[.slice Ag n Cg, .slice Bg s Dg] : Array Value)[zi]?) ∧ (∀ zi, w'.cell? ⟨w.heap.size + 1 + 1 + 1, zi, none⟩ = (#[.slice Ao on Co, .slice Bo os Do] : Array Value)[zi]?))
          (exact ⟨fun zi => (Blk.up bA0 (by assumption)).cell zi, fun zi => (Blk.up bB0 (by assumption)).cell zi, fun zi => (Blk.up bG0 (by assumption)).cell zi, fun zi => (Blk.up bX0 (by assumption)).cell zi⟩)
          (first
            | (go_at_call 22; ((with_reducible refine (HE1.out _ _ _ (sg0.up (by assumption)) (so0.up (by assumption))).mono ?_); rintro e wz ⟨rfl, hz⟩; have UZ := Up.trans (a := W0) (by assumption) hz))
            | (go_at_call 14; ((with_reducible refine (HE2.out _ _ _ (sg0.up (by assumption)) (so0.up (by assumption))).mono ?_); rintro e wz ⟨rfl, hz⟩; have UZ := Up.trans (a := W0) (by assumption) hz)))
        all_goals
          obtain ⟨w7, hww⟩ : ∃ z : World, z = wz := ⟨_, rfl⟩
          subst hww
          have bS7 := bS0.up UZ
          have bG7 := bG0.up UZ
          have bO7 := bO0.up UZ
          have bX7 := bX0.up UZ
          have bK7 := bK0.up UZ
          have bA7 := bA0.up UZ
          have bL7 := bL0.up UZ
          have bB7 := bB0.up UZ
          have sg7 := sg0.up UZ
          have so7 := so0.up UZ
          have sK7 := sK0.up UZ
          have sL7 := sL0.up UZ
          have U7 := UW0.trans UZ
          clear bS0 bG0 bO0 bX0 bK0 bA0 bL0 bB0 sg0 so0 sK0 sL0
          have bS7c := bS7.cell
          have bS7f := bS7.frozen
          have bS7l := bS7.lt
          have bG7c := bG7.cell
          have bG7f := bG7.frozen
          have bG7l := bG7.lt
          have bO7c := bO7.cell
          have bO7f := bO7.frozen
          have bO7l := bO7.lt
          have bX7c := bX7.cell
          have bX7f := bX7.frozen
          have bX7l := bX7.lt
          have bK7c := bK7.cell
          have bK7f := bK7.frozen
          have bK7l := bK7.lt
          have bA7c := bA7.cell
          have bA7f := bA7.frozen
          have bA7l := bA7.lt
          have bL7c := bL7.cell
          have bL7f := bL7.frozen
          have bL7l := bL7.lt
          have bB7c := bB7.cell
          have bB7f := bB7.frozen
          have bB7l := bB7.lt
          go_wp2
          go_ret
          exact ⟨rfl, U7⟩
  · have hf' : fewB g = false := by simpa using hf
    rw [hf'] at HFW
    have sg0 := hg
    have so0 := ho
    clear hg ho hf hf' hi hio hzg
    cases hrb : rgB g
    all_goals
      rw [hrb] at HR1 HR2
      clear hrb
      generalize o.1.length = on at *
      generalize o.2.length = os at *
      generalize g.1.length = n at *
      generalize g.2.length = s at *
      go_enter Try.func3, Try.ntmps3
      go_wp2_with (fail)
      refine calls_at (fun V1 hV => ?_)
      have kv : Up w V1 := by rw [hV]; (repeat (first | with_reducible exact Up.refl _ | with_reducible refine Up.alloc ?_ _ | with_reducible refine Up.drew ?_ | refine Up.setCell ?_ (by simp <;> omega) _))
      have bSv : Blk V1 (w.heap.size) 32 #[.slice Ag n Cg, .slice Bg s Dg, .int .i64 th, .int .i64 kd, .int .i64 hh, .int .i64 ii, .int .i64 kk, .int .u64 vv, .int .i64 tt, .int .i64 ll, .int .u64 mm, .slice Ao on Co, .slice Bo os Do, .int .i64 nt] := by rw [hV]; (repeat (first | with_reducible exact Blk.new' _ (by simp) _ _ | with_reducible refine Blk.alloc ?_ _ | with_reducible refine Blk.drew ?_ | refine Blk.far ?_ (by simp <;> omega) _))
      have bGv : Blk V1 (w.heap.size + 1) 25 #[.slice Ag n Cg, .slice Bg s Dg] := by rw [hV]; (repeat (first | with_reducible exact Blk.new' _ (by simp) _ _ | with_reducible refine Blk.alloc ?_ _ | with_reducible refine Blk.drew ?_ | refine Blk.far ?_ (by simp <;> omega) _))
      have bOv : Blk V1 (w.heap.size + 1 + 1) 30 #[.int .i64 kd, .int .i64 hh, .int .i64 ii, .int .i64 kk, .int .u64 vv, .int .i64 tt, .int .i64 ll, .int .u64 mm] := by rw [hV]; (repeat (first | with_reducible exact Blk.new' _ (by simp) _ _ | with_reducible refine Blk.alloc ?_ _ | with_reducible refine Blk.drew ?_ | refine Blk.far ?_ (by simp <;> omega) _))
      have bXv : Blk V1 (w.heap.size + 1 + 1 + 1) 25 #[.slice Ao on Co, .slice Bo os Do] := by rw [hV]; (repeat (first | with_reducible exact Blk.new' _ (by simp) _ _ | with_reducible refine Blk.alloc ?_ _ | with_reducible refine Blk.drew ?_ | refine Blk.far ?_ (by simp <;> omega) _))
      have Uv : Up w V1 := kv
      have sgv := sg0.up kv
      have sov := so0.up kv
      clear hV kv sg0 so0
      refine (HSH.out V1).mono ?_
      rintro e w1 ⟨rfl, k1⟩
      have bS1 := bSv.up k1
      have bG1 := bGv.up k1
      have bO1 := bOv.up k1
      have bX1 := bXv.up k1
      have U1 := Uv.trans k1
      have sg1 := sgv.up k1
      have so1 := sov.up k1
      clear k1 Uv bSv bGv bOv bXv sgv sov
      have bS1c := bS1.cell
      have bS1f := bS1.frozen
      have bS1l := bS1.lt
      have bG1c := bG1.cell
      have bG1f := bG1.frozen
      have bG1l := bG1.lt
      have bO1c := bO1.cell
      have bO1f := bO1.frozen
      have bO1l := bO1.lt
      have bX1c := bX1.cell
      have bX1f := bX1.frozen
      have bX1l := bX1.lt
      go_wp2_with (fail)
      obtain ⟨W0, hW0⟩ : ∃ W0 : World, W0 = w1.drew := ⟨_, rfl⟩
      have U0 : Up W0 w1.drew := by rw [hW0]; exact Up.refl _
      have k0 : Up w1 W0 := by rw [hW0]; exact (Up.refl _).drew
      have bS0 := bS1.up k0
      have bG0 := bG1.up k0
      have bO0 := bO1.up k0
      have bX0 := bX1.up k0
      have sg0 := sg1.up k0
      have so0 := so1.up k0
      have UW0 := U1.trans k0
      clear hW0 k0 bS1 bS1c bS1f bS1l bG1 bG1c bG1f bG1l bO1 bO1c bO1f bO1l bX1 bX1c bX1f bX1l U1 sg1 so1
      go_region_held3 (fun w' => (∀ zi, w'.cell? ⟨w.heap.size + 1, zi, none⟩ = (#[.slice Ag n Cg, .slice Bg s Dg] : Array Value)[zi]?))
        (exact fun zi => (Blk.up bG0 (by assumption)).cell zi)
        (first
          | (go_at_call 12; ((with_reducible refine (HR1.out _ (sg0.up (by assumption))).mono ?_); rintro e wz ⟨rfl, hz⟩; have UZ := Up.trans (a := W0) (by assumption) hz))
          | (go_at_call 13; ((with_reducible refine (HR2.out _ (sg0.up (by assumption))).mono ?_); rintro e wz ⟨rfl, hz⟩; have UZ := Up.trans (a := W0) (by assumption) hz))
          | (go_at_call 15; ((with_reducible refine (new_any nt _).mono ?_); rintro e wz ⟨vA, rfl, sA, hz⟩; have UZ := Up.trans (a := W0) (by assumption) hz))
          | (go_at_call 16; ((with_reducible refine (rnew_any nt _).mono ?_); rintro e wz ⟨vB, rfl, sB, hz⟩; have UZ := Up.trans (a := W0) (by assumption) hz))
          | (go_at_call 14; ((with_reducible refine (HS.out (nullG nt) _ _ _ (sA.up (by assumption)) sB).mono ?_); rintro e wz ⟨rfl, hz⟩; have UZ := Up.trans (a := W0) (by assumption) hz))
          | (go_at_call 14; ((with_reducible refine (HS.out (nullG nt) _ _ _ sA (sB.up (by assumption))).mono ?_); rintro e wz ⟨rfl, hz⟩; have UZ := Up.trans (a := W0) (by assumption) hz)))
      all_goals
        obtain ⟨w2, hww⟩ : ∃ z : World, z = wz := ⟨_, rfl⟩
        subst hww
        have bS2 := bS0.up UZ
        have bG2 := bG0.up UZ
        have bO2 := bO0.up UZ
        have bX2 := bX0.up UZ
        have sg2 := sg0.up UZ
        have so2 := so0.up UZ
        have U2 := UW0.trans UZ
        clear bS0 bG0 bO0 bX0 sg0 so0
        have bS2c := bS2.cell
        have bS2f := bS2.frozen
        have bS2l := bS2.lt
        have bG2c := bG2.cell
        have bG2f := bG2.frozen
        have bG2l := bG2.lt
        have bO2c := bO2.cell
        have bO2f := bO2.frozen
        have bO2l := bO2.lt
        have bX2c := bX2.cell
        have bX2f := bX2.frozen
        have bX2l := bX2.lt
        go_wp2_with (fail)
        refine calls_at (fun V3 hV => ?_)
        have kv : Up w2 V3 := by rw [hV]; (repeat (first | with_reducible exact Up.refl _ | with_reducible refine Up.alloc ?_ _ | with_reducible refine Up.drew ?_ | refine Up.setCell ?_ (by simp <;> omega) _))
        have bSv := bS2.up kv
        have bGv := bG2.up kv
        have bOv := bO2.up kv
        have bXv := bX2.up kv
        have Uv : Up w V3 := U2.trans kv
        have sgv := sg2.up kv
        have sov := so2.up kv
        clear hV kv bS2 bS2c bS2f bS2l bG2 bG2c bG2f bG2l bO2 bO2c bO2f bO2l bX2 bX2c bX2f bX2l U2 sg2 so2
        refine (HFW.out V3 sgv).mono ?_
        rintro e w3 ⟨rfl, k3⟩
        have bS3 := bSv.up k3
        have bG3 := bGv.up k3
        have bO3 := bOv.up k3
        have bX3 := bXv.up k3
        have U3 := Uv.trans k3
        have sg3 := sgv.up k3
        have so3 := sov.up k3
        clear k3 Uv bSv bGv bOv bXv sgv sov
        have bS3c := bS3.cell
        have bS3f := bS3.frozen
        have bS3l := bS3.lt
        have bG3c := bG3.cell
        have bG3f := bG3.frozen
        have bG3l := bG3.lt
        have bO3c := bO3.cell
        have bO3f := bO3.frozen
        have bO3l := bO3.lt
        have bX3c := bX3.cell
        have bX3f := bX3.frozen
        have bX3l := bX3.lt
        go_wp2
        go_ret
        refine ⟨rfl, ?_⟩
        (repeat (first | with_reducible exact U3 | with_reducible refine Up.alloc ?_ _ | with_reducible refine Up.drew ?_ | refine Up.setCell ?_ (by simp <;> omega) _))
theorem own : ownKnob Try.prog.godebug = none := by kernel_rfl
set_option maxRecDepth 100000 in
theorem contract (H : Type) (enc : TypeId × Value → H) (W : World) (base : Nat) (args : Array Value) (ds gs : List (DataW H)) (before : List MemPlace)
    (hval0 : ∀ (j : Nat) t v, Try.f3.params[j]? = some t → args[j]? = some v → Value.okWide Try.prog W .any base t v)
    (hW : DataW.Whole enc Try.prog Try.f3.params.toList Rows.graphDoesSpec.vars false W args.toList ds gs before) (hk : Rows.uptoSmall H (ds ++ gs) = true) :
    Calls Try.prog 3 args W fun e W' => ∃ v, e = .returned v ∧ Rows.graphDoesSpec.post enc Try.prog Try.f3 false true false false W args v W' := by
  have hval : ∀ (j : Nat) t v, Try.f3.params[j]? = some t → args[j]? = some v → Value.okWide Try.prog W .any base t v := hval0
  have hW' := hW
  obtain ⟨p, q, hA0, hV, rfl, hfz, hnd⟩ := hW
  have hA : DataW.TrodAll enc Try.prog W 0 (fun _ => true) true Try.f3.params.toList args.toList ds p := hA0
  rw [Try.params3] at hA hval
  obtain ⟨v0, vs0, d0, ds0, p0, q0, hargs, rfl, rfl, h0, r0⟩ := trodAll_cons hA
  obtain ⟨rfl, rfl, rfl⟩ := trodAll_nil r0
  obtain rfl : args = #[v0] := by cases args; simp_all
  obtain ⟨rfl, rfl⟩ := trodVars_none hV
  have hbk : Rows.uptoBulkAll [d0] ≤ 1048576 := of_decide_eq_true hk
  simp only [Rows.uptoBulkAll] at hbk
  clear hk
  have h0k := h0
  obtain ⟨Ag, Bg, Cg, Dg, g, th, kd, hh, ii, kk, vv, tt, ll, mm, Ao, Bo, Co, Do, o, nt, rfl, hg, hi, hzg, oth, o1, o5, o6, ho, hio, ont⟩ := in_at (hval 0 32 v0 rfl rfl) h0
  clear hA0 hval0
  simp only [List.append_nil, List.nil_append] at hW'
  refine (walk Ag Bg Cg Dg g th kd hh ii kk vv tt ll mm Ao Bo Co Do o nt (Rows.uptoBulk d0) W hg hi hzg oth o1 o5 o6 ho hio ont (by omega)).mono fun e W' ⟨he, hg⟩ => ?_
  subst he
  exact ⟨_, rfl, post_below (pa := p0) (pv := []) hW' (fun _ _ _ => (trodAll_cons_mk (shut_bool Try.underlying4 _) trodAll_mk0))
    (fun sp hsp => by
      have t := (trodAll_cons_mk (trod_keeps (sp := sp) (by kernel_rfl) (of_decide_eq_true (by kernel_rfl)) h0k hg (fun x hx => hW'.lt x (by simp [hx])) (fun x hx => hsp x (by simp [hx]))) trodAll_mk0)
      simp only [List.append_nil, List.nil_append] at t
      exact t) (fun _ _ => rfl) (by simp)
    hg (ok_one (by kernel_rfl) rfl (okWide_bool_mk Try.underlying4 _))⟩

set_option maxRecDepth 100000 in
theorem lifted (os : Os) (started : os.Started) (H : Type) (enc : TypeId × Value → H) (F : Stop.Interp) :
    ReturnsInHanded {} Try.checked os 3 .any ((Rows.OpenSpec.upto Rows.graphDoesSpec).pre6 enc Try.prog Try.f3 Rows.graphDoesUptoRow.domain false) (((Rows.OpenSpec.upto Rows.graphDoesSpec).at F).post enc Try.prog Try.f3 false true false false) := by
  refine returnsInHanded_of_cond (C := Try.checked) (s := Rows.OpenSpec.upto Rows.graphDoesSpec) (k := Rows.uptoSmall) rfl own started (by kernel_rfl) Try.func3
    (OpenSpec.witness (enc := enc) (C := Try.checked) (s := Rows.OpenSpec.upto Rows.graphDoesSpec) (k := Rows.uptoSmall) rfl false ⟨#[], #[.agg #[.slice none 0 0, .slice none 0 0, .int .i64 0, .int .i64 0, .int .i64 0, .int .i64 0, .int .i64 0, .int .u64 0, .int .i64 0, .int .i64 0, .int .u64 0, .slice none 0 0, .slice none 0 0, .int .i64 0]], []⟩ 8 (by kernel_rfl) (by kernel_rfl) (by kernel_rfl)
      (x := ([.agg [.agg [.nil, .nil], .lit (.int .i64 0), .agg [.lit (.int .i64 0), .lit (.int .i64 0), .lit (.int .i64 0), .lit (.int .i64 0), .lit (.int .u64 0), .agg [.lit (.int .i64 0), .lit (.int .i64 0), .lit (.int .u64 0)]], .agg [.nil, .nil], .lit (.int .i64 0)]], [], [])) (by kernel_rfl) rfl (by kernel_rfl)) ?_
  intro W base args ds gs before hval hW _ hk _
  exact contract H enc W base args ds gs before hval hW hk

set_option maxRecDepth 100000 in
theorem over : Rows.graphDoesUptoRow.holds Try.pinned (Rows.OpenSpec.upto Rows.graphDoesSpec) :=
  OpenClaim.holds_of_cond 3 Try.f3 rfl rfl rfl rfl rfl rfl rfl ⟨rfl, rfl, rfl, rfl, rfl⟩ rfl rfl rfl rfl rfl (by kernel_rfl) Try.func3 (by kernel_rfl)
    (of_decide_eq_true (by kernel_rfl)) (by unfold Func.isWrapper; first | (rw [if_pos (by decide +kernel)]; kernel_rfl) | (rw [if_neg (by decide +kernel)]; exact ⟨rfl, rfl⟩))
    (fun os started H enc _ F => lifted os started H enc F)

theorem proved : Rows.GraphDoesUptoSaid :=
  over
#print axioms proved
end Go.Proofs.Ytlocllcijncllaa.LGraphDoes
