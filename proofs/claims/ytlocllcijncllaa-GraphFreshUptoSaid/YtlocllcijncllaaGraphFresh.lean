/- GraphFresh, of all graphs that a machine can hold: it tells true, and changes nothing that it was handed. -/
import Derived.Test.YtlocllcijncllaaPe
namespace Go.Proofs.Ytlocllcijncllaa.LGraphFresh
open Go.Joins Go.ChangeShapes Go.WideShapes Go.ChangeAt Go.RowKit Go.Deep Go.Shelf Go.Maps
set_option linter.unusedVariables false
set_option linter.unusedSimpArgs false

set_option maxRecDepth 100000 in
theorem graph_at {H : Type} {enc : TypeId × Value → H} {w : World} {r : Reach} {b0 : Nat} {v : Value} {d : DataW H} {p : List MemPlace} (hv : Value.okWide Try.prog w r b0 25 v) (h : DataW.Trod enc Try.prog w 0 (fun _ => true) true 25 v d p) :
    ∃ g, GrV w v g ∧ GrIn g (Rows.uptoBulk d) := by
  obtain ⟨⟨l⟩, rfl, hsz⟩ := okWide_struct Try.underlying25 hv
  obtain ⟨fuel, hf⟩ := h
  obtain ⟨a, b, g, e, h1, h2⟩ := graph_cells (x := (d, p)) (cs := l) hf
  subst e
  exact ⟨g, h1, h2⟩
set_option maxRecDepth 100000 in
theorem op_at {H : Type} {enc : TypeId × Value → H} {w : World} {r : Reach} {b0 : Nat} {v : Value} {d : DataW H} {p : List MemPlace} (hv : Value.okWide Try.prog w r b0 30 v) (h : DataW.Trod enc Try.prog w 0 (fun _ => true) true 30 v d p) :
    ∃ kd hh i k u t l m : Int, v = .agg #[.int .i64 kd, .int .i64 hh, .int .i64 i, .int .i64 k, .int .u64 u, .int .i64 t, .int .i64 l, .int .u64 m] ∧ I64 kd ∧ I64 hh ∧ I64 i ∧ I64 k ∧ U64 u ∧ U64 m := by
  obtain ⟨⟨l⟩, rfl, hsz⟩ := okWide_struct Try.underlying30 hv
  obtain ⟨fuel, hf⟩ := h
  obtain ⟨a0, a1, a2, a3, a4, a5, a6, a7, e, r⟩ := op_cells (x := (d, p)) (cs := l) hf
  subst e
  exact ⟨a0, a1, a2, a3, a4, a5, a6, a7, rfl, r⟩
theorem cells_in : Try.prog.cellsOf 57 = 8 := by kernel_rfl
set_option maxRecDepth 100000 in
set_option maxHeartbeats 1000000 in
theorem in_cells {H : Type} {enc : TypeId × Value → H} {w : World} {fuel : Nat} {cs : List Value} {x : DataW H × List MemPlace} (h : DataW.trod enc Try.prog w 0 (fun _ => true) true fuel 57 cs = some x) : ∃ (Ag Bg : Option Addr) (Cg Dg : Nat) (g : Gr) (th : Int) (tt ll mm : Int) (ii : Int) (hh : Int), cs = [.slice Ag g.1.length Cg, .slice Bg g.2.length Dg, .int .i64 th, .int .i64 tt, .int .i64 ll, .int .u64 mm, .int .i64 ii, .int .i64 hh] ∧ GrV w (.agg #[.slice Ag g.1.length Cg, .slice Bg g.2.length Dg]) g ∧ GrIn g (Rows.uptoBulk x.1) ∧ I64 th ∧ U64 mm ∧ I64 ii ∧ I64 hh := by
  obtain ⟨ys, n, _, hd, hcl, hlen, hg⟩ := DataW.trod_struct Try.underlying57 h
  rw [cells_in] at hcl
  match cs, hcl with
  | [c0, c1, c2, c3, c4, c5, c6, c7], _ =>
    have f0 := hg 0 _ rfl
    have f1 := hg 1 _ rfl
    have f2 := hg 2 _ rfl
    have f3 := hg 3 _ rfl
    have f4 := hg 4 _ rfl
    match ys, hlen with
    | [y0, y1, y2, y3, y4], _ =>
      change DataW.trod enc Try.prog w 0 (fun _ => true) true n 25 (([c0, c1, c2, c3, c4, c5, c6, c7].drop 0).take (Try.prog.cellsOf 25)) = some y0 at f0
      rw [cells_graph] at f0
      change DataW.trod enc Try.prog w 0 (fun _ => true) true n 3 (([c0, c1, c2, c3, c4, c5, c6, c7].drop 2).take (Try.prog.cellsOf 3)) = some y1 at f1
      rw [cells_int] at f1
      change DataW.trod enc Try.prog w 0 (fun _ => true) true n 28 (([c0, c1, c2, c3, c4, c5, c6, c7].drop 3).take (Try.prog.cellsOf 28)) = some y2 at f2
      rw [cells_head] at f2
      change DataW.trod enc Try.prog w 0 (fun _ => true) true n 3 (([c0, c1, c2, c3, c4, c5, c6, c7].drop 6).take (Try.prog.cellsOf 3)) = some y3 at f3
      rw [cells_int] at f3
      change DataW.trod enc Try.prog w 0 (fun _ => true) true n 3 (([c0, c1, c2, c3, c4, c5, c6, c7].drop 7).take (Try.prog.cellsOf 3)) = some y4 at f4
      rw [cells_int] at f4
      obtain ⟨a0, b0, g0, e, hg0, hi0⟩ := graph_cells (cs := [c0, c1]) f0
      simp only [List.cons.injEq, and_true] at e
      obtain ⟨rfl, rfl⟩ := e
      obtain ⟨A0, C0, B0, D0, e, -⟩ := hg0.form
      have e := congrArg (fun v => match v with | Value.agg l => l.toList | _ => []) e
      simp only [List.cons.injEq, and_true] at e
      obtain ⟨rfl, rfl⟩ := e
      obtain ⟨a1, rfl, h1⟩ := int_at (v := c2) f1
      obtain ⟨t2, l2, m2, e, h2⟩ := head_cells (cs := [c3, c4, c5]) f2
      simp only [List.cons.injEq, and_true] at e
      obtain ⟨rfl, rfl, rfl⟩ := e
      obtain ⟨a3, rfl, h3⟩ := int_at (v := c6) f3
      obtain ⟨a4, rfl, h4⟩ := int_at (v := c7) f4
      obtain ⟨d, p⟩ := x
      simp only [Prod.mk.injEq] at hd
      obtain ⟨rfl, -⟩ := hd
      refine ⟨A0, B0, C0, D0, g0, a1, t2, l2, m2, a3, a4, rfl, hg0, ⟨hi0.nd, ?_⟩, h1, h2, h3, h4⟩
      · have := hi0.st
        simp only [Rows.uptoBulk, List.map_cons, List.map_nil, Rows.uptoBulkAll]
        omega
set_option maxRecDepth 100000 in
theorem in_at {H : Type} {enc : TypeId × Value → H} {w : World} {r : Reach} {b0 : Nat} {v : Value} {d : DataW H} {p : List MemPlace} (hv : Value.okWide Try.prog w r b0 57 v) (h : DataW.Trod enc Try.prog w 0 (fun _ => true) true 57 v d p) : ∃ (Ag Bg : Option Addr) (Cg Dg : Nat) (g : Gr) (th : Int) (tt ll mm : Int) (ii : Int) (hh : Int), v = .agg #[.slice Ag g.1.length Cg, .slice Bg g.2.length Dg, .int .i64 th, .int .i64 tt, .int .i64 ll, .int .u64 mm, .int .i64 ii, .int .i64 hh] ∧ GrV w (.agg #[.slice Ag g.1.length Cg, .slice Bg g.2.length Dg]) g ∧ GrIn g (Rows.uptoBulk d) ∧ I64 th ∧ U64 mm ∧ I64 ii ∧ I64 hh := by
  obtain ⟨⟨l⟩, rfl, hsz⟩ := okWide_struct Try.underlying57 hv
  obtain ⟨fuel, hf⟩ := h
  obtain ⟨Ag, Bg, Cg, Dg, g, th, tt, ll, mm, ii, hh, e, hr⟩ := in_cells (x := (d, p)) (cs := l) hf
  subst e
  exact ⟨Ag, Bg, Cg, Dg, g, th, tt, ll, mm, ii, hh, rfl, hr⟩
set_option maxRecDepth 100000 in
set_option maxHeartbeats 8000000 in
theorem walk (Ag : Option Addr) (Bg : Option Addr) (Cg : Nat) (Dg : Nat) (g : Gr) (th : Int) (tt : Int) (ll : Int) (mm : Int) (ii : Int) (hh : Int) (B : Nat) (w : World) (hg : GrV w (.agg #[.slice Ag g.1.length Cg, .slice Bg g.2.length Dg]) g) (hi : GrIn g B) (oth : I64 th) (om : U64 mm) (oii : I64 ii) (ohh : I64 hh) (hB : B ≤ 1048576) :
    Calls Try.prog 10 #[.agg #[.slice Ag g.1.length Cg, .slice Bg g.2.length Dg, .int .i64 th, .int .i64 tt, .int .i64 ll, .int .u64 mm, .int .i64 ii, .int .i64 hh]] w fun e w' => e = .returned (.bool true) ∧ Up w w' := by
  obtain ⟨_, _, _, _, -, m1, m2⟩ := hg.form
  have HSH := Lib.hid shown_any
  have HFW := Lib.hid (fun W' (u : GrV W' (.agg #[.slice Ag g.1.length Cg, .slice Bg g.2.length Dg]) g) => few_any (.agg #[.slice Ag g.1.length Cg, .slice Bg g.2.length Dg]) g W' u hi.nd)
  by_cases hf : fewB g = true
  · have hF := (few_of hf hi).okk hB
    have hok := hF.ok (by omega)
    have ok1 := hF.step (by omega) th ⟨1, 0, 0, 0, 0, tt, ll, mm⟩ u640 om
    rw [hf] at HFW
    by_cases he : (doG g th ⟨1, 0, 0, 0, 0, tt, ll, mm⟩).2.1 = 0
    · obtain ⟨⟨ka, sa⟩, e1, l1, l2, ht, l6, ⟨x1, e2⟩, ⟨x2, e3⟩, q⟩ := fresh_1 (i := ii) (h := hh) hF.rg he
      rw [e1] at ok1
      have ok1 := ok1.ok (by omega)
      simp only [] at l1 l2
      have D1 := Lib.hid (do_at (n := g.1.length + 1) (s := g.2.length) hok (i64k 1 (by omega)) u640 om e1 l1 l2)
      have D2 := Lib.hid (do_at (n := g.1.length + 1) (s := g.2.length) ok1 (i64k 8 (by omega)) u640 u640 e2 l1 l2)
      have D3 := Lib.hid (do_at (n := g.1.length + 1) (s := g.2.length) ok1 (i64k 2 (by omega)) u640 u640 e3 l1 l2)
      obtain ⟨th, rfl⟩ : ∃ j : Nat, th = j := ⟨th.toNat, by have := ht.1; omega⟩
      have htl : th < g.2.length := by have := ht.2; omega
      have d1 : decide ((th : Int) < 0) = false := decide_eq_false (by omega)
      have d2 : decide ((th : Int) ≥ (g.2.length : Int)) = false := decide_eq_false (by omega)
      obtain ⟨pr, PR, qr, rfl, hc0, hl0, hsl⟩ := hg.row_at htl
      have HHC := Lib.hid (fun W' (k : Up w W') => (Up.cell k hc0 : W'.cell? (pr.add th) = _))
      have HHL := Lib.hid (fun W' (k : Up w W') => (k.lt hl0 : pr.block < W'.heap.size))
      rcases q with ⟨x3, hx3, e4⟩ | ⟨⟨kb, sb⟩, e4, l7, l8, l9, l10⟩
      · have D4 := Lib.hid (do_at (n := g.1.length + 1) (s := g.2.length) ok1 (i64k 3 (by omega)) u640 u640 e4 l1 l2)
        have hb : (x3 != 0) = true := bne_iff_ne.2 hx3
        generalize (rowOf g th).length = m at *
        have sg0 := hg
        clear hg hf hok hi hF he e1 e2 e3 e4 l1 l2 ok1 ht hsl hc0 hl0
        generalize g.1.length = n at *
        generalize g.2.length = s at *
        go_enter Try.func10, Try.ntmps10
        go_wp2_with (fail)
        refine calls_at (fun V1 hV => ?_)
        have kv : Up w V1 := by rw [hV]; (repeat (first | with_reducible exact Up.refl _ | with_reducible refine Up.alloc ?_ _ | with_reducible refine Up.drew ?_ | refine Up.setCell ?_ (by simp <;> omega) _))
        have bSv : Blk V1 (w.heap.size) 57 #[.slice Ag n Cg, .slice (some pr) s Dg, .int .i64 th, .int .i64 tt, .int .i64 ll, .int .u64 mm, .int .i64 ii, .int .i64 hh] := by rw [hV]; (repeat (first | with_reducible exact Blk.new' _ (by simp) _ _ | with_reducible refine Blk.alloc ?_ _ | with_reducible refine Blk.drew ?_ | refine Blk.far ?_ (by simp <;> omega) _))
        have bGv : Blk V1 (w.heap.size + 1) 25 #[.slice Ag n Cg, .slice (some pr) s Dg] := by rw [hV]; (repeat (first | with_reducible exact Blk.new' _ (by simp) _ _ | with_reducible refine Blk.alloc ?_ _ | with_reducible refine Blk.drew ?_ | refine Blk.far ?_ (by simp <;> omega) _))
        have bHv : Blk V1 (w.heap.size + 1 + 1) 28 #[.int .i64 tt, .int .i64 ll, .int .u64 mm] := by rw [hV]; (repeat (first | with_reducible exact Blk.new' _ (by simp) _ _ | with_reducible refine Blk.alloc ?_ _ | with_reducible refine Blk.drew ?_ | refine Blk.far ?_ (by simp <;> omega) _))
        have Uv : Up w V1 := kv
        have sgv := sg0.up kv
        clear hV kv sg0
        refine (HSH.out V1).mono ?_
        rintro e w1 ⟨rfl, k1⟩
        have bS1 := bSv.up k1
        have bG1 := bGv.up k1
        have bH1 := bHv.up k1
        have U1 := Uv.trans k1
        have sg1 := sgv.up k1
        clear k1 Uv bSv bGv bHv sgv
        have bS1c := bS1.cell
        have bS1f := bS1.frozen
        have bS1l := bS1.lt
        have bG1c := bG1.cell
        have bG1f := bG1.frozen
        have bG1l := bG1.lt
        have bH1c := bH1.cell
        have bH1f := bH1.frozen
        have bH1l := bH1.lt
        go_wp2_with (fail)
        refine calls_at (fun V2 hV => ?_)
        have kv : Up w1 V2 := by rw [hV]; (repeat (first | with_reducible exact Up.refl _ | with_reducible refine Up.alloc ?_ _ | with_reducible refine Up.drew ?_ | refine Up.setCell ?_ (by simp <;> omega) _))
        have bSv := bS1.up kv
        have bGv := bG1.up kv
        have bHv := bH1.up kv
        have Uv : Up w V2 := U1.trans kv
        have sgv := sg1.up kv
        clear hV kv bS1 bS1c bS1f bS1l bG1 bG1c bG1f bG1l bH1 bH1c bH1f bH1l U1 sg1
        refine (HFW.out V2 sgv).mono ?_
        rintro e w2 ⟨rfl, k2⟩
        have bS2 := bSv.up k2
        have bG2 := bGv.up k2
        have bH2 := bHv.up k2
        have U2 := Uv.trans k2
        have sg2 := sgv.up k2
        clear k2 Uv bSv bGv bHv sgv
        have bS2c := bS2.cell
        have bS2f := bS2.frozen
        have bS2l := bS2.lt
        have bG2c := bG2.cell
        have bG2f := bG2.frozen
        have bG2l := bG2.lt
        have bH2c := bH2.cell
        have bH2f := bH2.frozen
        have bH2l := bH2.lt
        go_wp2_with (fail)
        refine calls_at (fun V3 hV => ?_)
        have kv : Up w2 V3 := by rw [hV]; (repeat (first | with_reducible exact Up.refl _ | with_reducible refine Up.alloc ?_ _ | with_reducible refine Up.drew ?_ | refine Up.setCell ?_ (by simp <;> omega) _))
        have bSv := bS2.up kv
        have bGv := bG2.up kv
        have bHv := bH2.up kv
        have Uv : Up w V3 := U2.trans kv
        have sgv := sg2.up kv
        clear hV kv bS2 bS2c bS2f bS2l bG2 bG2c bG2f bG2l bH2 bH2c bH2f bH2l U2 sg2
        refine (D1.out V3 _ sgv).mono ?_
        rintro e w3 ⟨AP, cP, BP, dP, rfl, sP3, k3⟩
        have bS3 := bSv.up k3
        have bG3 := bGv.up k3
        have bH3 := bHv.up k3
        have U3 := Uv.trans k3
        have sg3 := sgv.up k3
        clear k3 Uv bSv bGv bHv sgv
        have bS3c := bS3.cell
        have bS3f := bS3.frozen
        have bS3l := bS3.lt
        have bG3c := bG3.cell
        have bG3f := bG3.frozen
        have bG3l := bG3.lt
        have bH3c := bH3.cell
        have bH3f := bH3.frozen
        have bH3l := bH3.lt
        have hcr := fun o1 o2 => HHC.out _ ((U3.alloc o1).alloc o2)
        have hlr := HHL.out _ U3
        go_wp2_with (fail)
        refine calls_at (fun V4 hV => ?_)
        have kv : Up w3 V4 := by rw [hV]; (repeat (first | with_reducible exact Up.refl _ | with_reducible refine Up.alloc ?_ _ | with_reducible refine Up.drew ?_ | refine Up.setCell ?_ (by simp <;> omega) _))
        have bSv := bS3.up kv
        have bGv := bG3.up kv
        have bHv := bH3.up kv
        have bPv : Blk V4 (w3.heap.size) 25 #[.slice AP (n + 1) cP, .slice BP s dP] := by rw [hV]; (repeat (first | with_reducible exact Blk.new' _ (by simp) _ _ | with_reducible refine Blk.alloc ?_ _ | with_reducible refine Blk.drew ?_ | refine Blk.far ?_ (by simp <;> omega) _))
        have bXv : Blk V4 (w3.heap.size + 1) 39 #[.int .i64 0, .int .u64 0, .bool false] := by rw [hV]; (repeat (first | with_reducible exact Blk.new' _ (by simp) _ _ | with_reducible refine Blk.alloc ?_ _ | with_reducible refine Blk.drew ?_ | refine Blk.far ?_ (by simp <;> omega) _))
        have Uv : Up w V4 := U3.trans kv
        have sgv := sg3.up kv
        have sPv := sP3.up kv
        clear hV kv bS3 bS3c bS3f bS3l bG3 bG3c bG3f bG3l bH3 bH3c bH3f bH3l U3 sg3 sP3
        refine (D2.out V4 _ sPv).mono ?_
        rintro e w4 ⟨AQ, cQ, BQ, dQ, rfl, sQ4, k4⟩
        have bS4 := bSv.up k4
        have bG4 := bGv.up k4
        have bH4 := bHv.up k4
        have bP4 := bPv.up k4
        have bX4 := bXv.up k4
        have U4 := Uv.trans k4
        have sg4 := sgv.up k4
        have sP4 := sPv.up k4
        clear k4 Uv bSv bGv bHv bPv bXv sgv sPv
        have bS4c := bS4.cell
        have bS4f := bS4.frozen
        have bS4l := bS4.lt
        have bG4c := bG4.cell
        have bG4f := bG4.frozen
        have bG4l := bG4.lt
        have bH4c := bH4.cell
        have bH4f := bH4.frozen
        have bH4l := bH4.lt
        have bP4c := bP4.cell
        have bP4f := bP4.frozen
        have bP4l := bP4.lt
        have bX4c := bX4.cell
        have bX4f := bX4.frozen
        have bX4l := bX4.lt
        go_wp2_with (fail)
        refine calls_at (fun V5 hV => ?_)
        have kv : Up w4 V5 := by rw [hV]; (repeat (first | with_reducible exact Up.refl _ | with_reducible refine Up.alloc ?_ _ | with_reducible refine Up.drew ?_ | refine Up.setCell ?_ (by simp <;> omega) _))
        have bSv := bS4.up kv
        have bGv := bG4.up kv
        have bHv := bH4.up kv
        have bPv := bP4.up kv
        have bXv := bX4.up kv
        have bQv : Blk V5 (w4.heap.size) 25 #[.slice AQ (n + 1) cQ, .slice BQ s dQ] := by rw [hV]; (repeat (first | with_reducible exact Blk.new' _ (by simp) _ _ | with_reducible refine Blk.alloc ?_ _ | with_reducible refine Blk.drew ?_ | refine Blk.far ?_ (by simp <;> omega) _))
        have bYv : Blk V5 (w4.heap.size + 1) 39 #[.int .i64 x1, .int .u64 0, .bool (decide (hh = (m : Int)))] := by rw [hV]; (repeat (first | with_reducible exact Blk.new' _ (by simp) _ _ | with_reducible refine Blk.alloc ?_ _ | with_reducible refine Blk.drew ?_ | refine Blk.far ?_ (by simp <;> omega) _))
        have Uv : Up w V5 := U4.trans kv
        have sgv := sg4.up kv
        have sPv := sP4.up kv
        have sQv := sQ4.up kv
        clear hV kv bS4 bS4c bS4f bS4l bG4 bG4c bG4f bG4l bH4 bH4c bH4f bH4l bP4 bP4c bP4f bP4l bX4 bX4c bX4f bX4l U4 sg4 sP4 sQ4
        refine (D3.out V5 _ sPv).mono ?_
        rintro e w5 ⟨AR, cR, BR, dR, rfl, sR5, k5⟩
        have bS5 := bSv.up k5
        have bG5 := bGv.up k5
        have bH5 := bHv.up k5
        have bP5 := bPv.up k5
        have bX5 := bXv.up k5
        have bQ5 := bQv.up k5
        have bY5 := bYv.up k5
        have U5 := Uv.trans k5
        have sg5 := sgv.up k5
        have sP5 := sPv.up k5
        have sQ5 := sQv.up k5
        clear k5 Uv bSv bGv bHv bPv bXv bQv bYv sgv sPv sQv
        have bS5c := bS5.cell
        have bS5f := bS5.frozen
        have bS5l := bS5.lt
        have bG5c := bG5.cell
        have bG5f := bG5.frozen
        have bG5l := bG5.lt
        have bH5c := bH5.cell
        have bH5f := bH5.frozen
        have bH5l := bH5.lt
        have bP5c := bP5.cell
        have bP5f := bP5.frozen
        have bP5l := bP5.lt
        have bX5c := bX5.cell
        have bX5f := bX5.frozen
        have bX5l := bX5.lt
        have bQ5c := bQ5.cell
        have bQ5f := bQ5.frozen
        have bQ5l := bQ5.lt
        have bY5c := bY5.cell
        have bY5f := bY5.frozen
        have bY5l := bY5.lt
        go_wp2_with (fail)
        refine calls_at (fun V6 hV => ?_)
        have kv : Up w5 V6 := by rw [hV]; (repeat (first | with_reducible exact Up.refl _ | with_reducible refine Up.alloc ?_ _ | with_reducible refine Up.drew ?_ | refine Up.setCell ?_ (by simp <;> omega) _))
        have bSv := bS5.up kv
        have bGv := bG5.up kv
        have bHv := bH5.up kv
        have bPv := bP5.up kv
        have bXv := bX5.up kv
        have bQv := bQ5.up kv
        have bYv := bY5.up kv
        have bRv : Blk V6 (w5.heap.size) 25 #[.slice AR (n + 1) cR, .slice BR s dR] := by rw [hV]; (repeat (first | with_reducible exact Blk.new' _ (by simp) _ _ | with_reducible refine Blk.alloc ?_ _ | with_reducible refine Blk.drew ?_ | refine Blk.far ?_ (by simp <;> omega) _))
        have bWv : Blk V6 (w5.heap.size + 1) 39 #[.int .i64 x2, .int .u64 0, .bool false] := by rw [hV]; (repeat (first | with_reducible exact Blk.new' _ (by simp) _ _ | with_reducible refine Blk.alloc ?_ _ | with_reducible refine Blk.drew ?_ | refine Blk.far ?_ (by simp <;> omega) _))
        have Uv : Up w V6 := U5.trans kv
        have sgv := sg5.up kv
        have sPv := sP5.up kv
        have sQv := sQ5.up kv
        have sRv := sR5.up kv
        clear hV kv bS5 bS5c bS5f bS5l bG5 bG5c bG5f bG5l bH5 bH5c bH5f bH5l bP5 bP5c bP5f bP5l bX5 bX5c bX5f bX5l bQ5 bQ5c bQ5f bQ5l bY5 bY5c bY5f bY5l U5 sg5 sP5 sQ5 sR5
        refine (D4.out V6 _ sPv).mono ?_
        rintro e w6 ⟨AZ, cZ, BZ, dZ, rfl, sZ6, k6⟩
        have bS6 := bSv.up k6
        have bG6 := bGv.up k6
        have bH6 := bHv.up k6
        have bP6 := bPv.up k6
        have bX6 := bXv.up k6
        have bQ6 := bQv.up k6
        have bY6 := bYv.up k6
        have bR6 := bRv.up k6
        have bW6 := bWv.up k6
        have U6 := Uv.trans k6
        have sg6 := sgv.up k6
        have sP6 := sPv.up k6
        have sQ6 := sQv.up k6
        have sR6 := sRv.up k6
        clear k6 Uv bSv bGv bHv bPv bXv bQv bYv bRv bWv sgv sPv sQv sRv
        have bS6c := bS6.cell
        have bS6f := bS6.frozen
        have bS6l := bS6.lt
        have bG6c := bG6.cell
        have bG6f := bG6.frozen
        have bG6l := bG6.lt
        have bH6c := bH6.cell
        have bH6f := bH6.frozen
        have bH6l := bH6.lt
        have bP6c := bP6.cell
        have bP6f := bP6.frozen
        have bP6l := bP6.lt
        have bX6c := bX6.cell
        have bX6f := bX6.frozen
        have bX6l := bX6.lt
        have bQ6c := bQ6.cell
        have bQ6f := bQ6.frozen
        have bQ6l := bQ6.lt
        have bY6c := bY6.cell
        have bY6f := bY6.frozen
        have bY6l := bY6.lt
        have bR6c := bR6.cell
        have bR6f := bR6.frozen
        have bR6l := bR6.lt
        have bW6c := bW6.cell
        have bW6f := bW6.frozen
        have bW6l := bW6.lt
        go_wp2
        go_ret
        refine ⟨rfl, ?_⟩
        (repeat (first | with_reducible exact U6 | with_reducible refine Up.alloc ?_ _ | with_reducible refine Up.drew ?_ | refine Up.setCell ?_ (by simp <;> omega) _))
      · simp only [] at l7 l8
        have D4 := Lib.hid (do_at (n := g.1.length + 1) (s := g.2.length) ok1 (i64k 3 (by omega)) u640 u640 e4 l7 l8)
        have HROW : Hid (∀ W' A c B d, GrV W' (.agg #[.slice A (g.1.length + 1) c, .slice B g.2.length d]) (kb, sb) → ∃ p P q, B = some p ∧ W'.cell? (p.add th) = some (.slice (some P) ((rowOf g th).length + 2) q) ∧ p.block < W'.heap.size ∧ W'.cell? (P.add ((rowOf g th).length + 1)) = some (.int .i64 0) ∧ P.block < W'.heap.size) := Lib.hid (by
          intro W' A c B d h
          obtain ⟨p, P, q, e, h1, h2, h3⟩ := h.row_at (j := th) (by show th < sb.length; omega)
          obtain ⟨P', rfl, h4⟩ := h3.at_ (x := (rowOf g th).length + 1) (by rw [l9]; omega)
          rw [l10] at h4
          rw [l9] at h1
          exact ⟨p, P', q, e, h1, h2, h4, by have := lt_of_cell h4; rwa [block_of_add] at this⟩)
        clear l9 l10
        generalize (rowOf g th).length = m at *
        have sg0 := hg
        clear hg hf hok hi hF he e1 e2 e3 e4 l1 l2 l7 l8 ok1 ht hsl hc0 hl0
        generalize g.1.length = n at *
        generalize g.2.length = s at *
        go_enter Try.func10, Try.ntmps10
        go_wp2_with (fail)
        refine calls_at (fun V1 hV => ?_)
        have kv : Up w V1 := by rw [hV]; (repeat (first | with_reducible exact Up.refl _ | with_reducible refine Up.alloc ?_ _ | with_reducible refine Up.drew ?_ | refine Up.setCell ?_ (by simp <;> omega) _))
        have bSv : Blk V1 (w.heap.size) 57 #[.slice Ag n Cg, .slice (some pr) s Dg, .int .i64 th, .int .i64 tt, .int .i64 ll, .int .u64 mm, .int .i64 ii, .int .i64 hh] := by rw [hV]; (repeat (first | with_reducible exact Blk.new' _ (by simp) _ _ | with_reducible refine Blk.alloc ?_ _ | with_reducible refine Blk.drew ?_ | refine Blk.far ?_ (by simp <;> omega) _))
        have bGv : Blk V1 (w.heap.size + 1) 25 #[.slice Ag n Cg, .slice (some pr) s Dg] := by rw [hV]; (repeat (first | with_reducible exact Blk.new' _ (by simp) _ _ | with_reducible refine Blk.alloc ?_ _ | with_reducible refine Blk.drew ?_ | refine Blk.far ?_ (by simp <;> omega) _))
        have bHv : Blk V1 (w.heap.size + 1 + 1) 28 #[.int .i64 tt, .int .i64 ll, .int .u64 mm] := by rw [hV]; (repeat (first | with_reducible exact Blk.new' _ (by simp) _ _ | with_reducible refine Blk.alloc ?_ _ | with_reducible refine Blk.drew ?_ | refine Blk.far ?_ (by simp <;> omega) _))
        have Uv : Up w V1 := kv
        have sgv := sg0.up kv
        clear hV kv sg0
        refine (HSH.out V1).mono ?_
        rintro e w1 ⟨rfl, k1⟩
        have bS1 := bSv.up k1
        have bG1 := bGv.up k1
        have bH1 := bHv.up k1
        have U1 := Uv.trans k1
        have sg1 := sgv.up k1
        clear k1 Uv bSv bGv bHv sgv
        have bS1c := bS1.cell
        have bS1f := bS1.frozen
        have bS1l := bS1.lt
        have bG1c := bG1.cell
        have bG1f := bG1.frozen
        have bG1l := bG1.lt
        have bH1c := bH1.cell
        have bH1f := bH1.frozen
        have bH1l := bH1.lt
        go_wp2_with (fail)
        refine calls_at (fun V2 hV => ?_)
        have kv : Up w1 V2 := by rw [hV]; (repeat (first | with_reducible exact Up.refl _ | with_reducible refine Up.alloc ?_ _ | with_reducible refine Up.drew ?_ | refine Up.setCell ?_ (by simp <;> omega) _))
        have bSv := bS1.up kv
        have bGv := bG1.up kv
        have bHv := bH1.up kv
        have Uv : Up w V2 := U1.trans kv
        have sgv := sg1.up kv
        clear hV kv bS1 bS1c bS1f bS1l bG1 bG1c bG1f bG1l bH1 bH1c bH1f bH1l U1 sg1
        refine (HFW.out V2 sgv).mono ?_
        rintro e w2 ⟨rfl, k2⟩
        have bS2 := bSv.up k2
        have bG2 := bGv.up k2
        have bH2 := bHv.up k2
        have U2 := Uv.trans k2
        have sg2 := sgv.up k2
        clear k2 Uv bSv bGv bHv sgv
        have bS2c := bS2.cell
        have bS2f := bS2.frozen
        have bS2l := bS2.lt
        have bG2c := bG2.cell
        have bG2f := bG2.frozen
        have bG2l := bG2.lt
        have bH2c := bH2.cell
        have bH2f := bH2.frozen
        have bH2l := bH2.lt
        go_wp2_with (fail)
        refine calls_at (fun V3 hV => ?_)
        have kv : Up w2 V3 := by rw [hV]; (repeat (first | with_reducible exact Up.refl _ | with_reducible refine Up.alloc ?_ _ | with_reducible refine Up.drew ?_ | refine Up.setCell ?_ (by simp <;> omega) _))
        have bSv := bS2.up kv
        have bGv := bG2.up kv
        have bHv := bH2.up kv
        have Uv : Up w V3 := U2.trans kv
        have sgv := sg2.up kv
        clear hV kv bS2 bS2c bS2f bS2l bG2 bG2c bG2f bG2l bH2 bH2c bH2f bH2l U2 sg2
        refine (D1.out V3 _ sgv).mono ?_
        rintro e w3 ⟨AP, cP, BP, dP, rfl, sP3, k3⟩
        have bS3 := bSv.up k3
        have bG3 := bGv.up k3
        have bH3 := bHv.up k3
        have U3 := Uv.trans k3
        have sg3 := sgv.up k3
        clear k3 Uv bSv bGv bHv sgv
        have bS3c := bS3.cell
        have bS3f := bS3.frozen
        have bS3l := bS3.lt
        have bG3c := bG3.cell
        have bG3f := bG3.frozen
        have bG3l := bG3.lt
        have bH3c := bH3.cell
        have bH3f := bH3.frozen
        have bH3l := bH3.lt
        have hcr := fun o1 o2 => HHC.out _ ((U3.alloc o1).alloc o2)
        have hlr := HHL.out _ U3
        go_wp2_with (fail)
        refine calls_at (fun V4 hV => ?_)
        have kv : Up w3 V4 := by rw [hV]; (repeat (first | with_reducible exact Up.refl _ | with_reducible refine Up.alloc ?_ _ | with_reducible refine Up.drew ?_ | refine Up.setCell ?_ (by simp <;> omega) _))
        have bSv := bS3.up kv
        have bGv := bG3.up kv
        have bHv := bH3.up kv
        have bPv : Blk V4 (w3.heap.size) 25 #[.slice AP (n + 1) cP, .slice BP s dP] := by rw [hV]; (repeat (first | with_reducible exact Blk.new' _ (by simp) _ _ | with_reducible refine Blk.alloc ?_ _ | with_reducible refine Blk.drew ?_ | refine Blk.far ?_ (by simp <;> omega) _))
        have bXv : Blk V4 (w3.heap.size + 1) 39 #[.int .i64 0, .int .u64 0, .bool false] := by rw [hV]; (repeat (first | with_reducible exact Blk.new' _ (by simp) _ _ | with_reducible refine Blk.alloc ?_ _ | with_reducible refine Blk.drew ?_ | refine Blk.far ?_ (by simp <;> omega) _))
        have Uv : Up w V4 := U3.trans kv
        have sgv := sg3.up kv
        have sPv := sP3.up kv
        clear hV kv bS3 bS3c bS3f bS3l bG3 bG3c bG3f bG3l bH3 bH3c bH3f bH3l U3 sg3 sP3
        refine (D2.out V4 _ sPv).mono ?_
        rintro e w4 ⟨AQ, cQ, BQ, dQ, rfl, sQ4, k4⟩
        have bS4 := bSv.up k4
        have bG4 := bGv.up k4
        have bH4 := bHv.up k4
        have bP4 := bPv.up k4
        have bX4 := bXv.up k4
        have U4 := Uv.trans k4
        have sg4 := sgv.up k4
        have sP4 := sPv.up k4
        clear k4 Uv bSv bGv bHv bPv bXv sgv sPv
        have bS4c := bS4.cell
        have bS4f := bS4.frozen
        have bS4l := bS4.lt
        have bG4c := bG4.cell
        have bG4f := bG4.frozen
        have bG4l := bG4.lt
        have bH4c := bH4.cell
        have bH4f := bH4.frozen
        have bH4l := bH4.lt
        have bP4c := bP4.cell
        have bP4f := bP4.frozen
        have bP4l := bP4.lt
        have bX4c := bX4.cell
        have bX4f := bX4.frozen
        have bX4l := bX4.lt
        go_wp2_with (fail)
        refine calls_at (fun V5 hV => ?_)
        have kv : Up w4 V5 := by rw [hV]; (repeat (first | with_reducible exact Up.refl _ | with_reducible refine Up.alloc ?_ _ | with_reducible refine Up.drew ?_ | refine Up.setCell ?_ (by simp <;> omega) _))
        have bSv := bS4.up kv
        have bGv := bG4.up kv
        have bHv := bH4.up kv
        have bPv := bP4.up kv
        have bXv := bX4.up kv
        have bQv : Blk V5 (w4.heap.size) 25 #[.slice AQ (n + 1) cQ, .slice BQ s dQ] := by rw [hV]; (repeat (first | with_reducible exact Blk.new' _ (by simp) _ _ | with_reducible refine Blk.alloc ?_ _ | with_reducible refine Blk.drew ?_ | refine Blk.far ?_ (by simp <;> omega) _))
        have bYv : Blk V5 (w4.heap.size + 1) 39 #[.int .i64 x1, .int .u64 0, .bool (decide (hh = (m : Int)))] := by rw [hV]; (repeat (first | with_reducible exact Blk.new' _ (by simp) _ _ | with_reducible refine Blk.alloc ?_ _ | with_reducible refine Blk.drew ?_ | refine Blk.far ?_ (by simp <;> omega) _))
        have Uv : Up w V5 := U4.trans kv
        have sgv := sg4.up kv
        have sPv := sP4.up kv
        have sQv := sQ4.up kv
        clear hV kv bS4 bS4c bS4f bS4l bG4 bG4c bG4f bG4l bH4 bH4c bH4f bH4l bP4 bP4c bP4f bP4l bX4 bX4c bX4f bX4l U4 sg4 sP4 sQ4
        refine (D3.out V5 _ sPv).mono ?_
        rintro e w5 ⟨AR, cR, BR, dR, rfl, sR5, k5⟩
        have bS5 := bSv.up k5
        have bG5 := bGv.up k5
        have bH5 := bHv.up k5
        have bP5 := bPv.up k5
        have bX5 := bXv.up k5
        have bQ5 := bQv.up k5
        have bY5 := bYv.up k5
        have U5 := Uv.trans k5
        have sg5 := sgv.up k5
        have sP5 := sPv.up k5
        have sQ5 := sQv.up k5
        clear k5 Uv bSv bGv bHv bPv bXv bQv bYv sgv sPv sQv
        have bS5c := bS5.cell
        have bS5f := bS5.frozen
        have bS5l := bS5.lt
        have bG5c := bG5.cell
        have bG5f := bG5.frozen
        have bG5l := bG5.lt
        have bH5c := bH5.cell
        have bH5f := bH5.frozen
        have bH5l := bH5.lt
        have bP5c := bP5.cell
        have bP5f := bP5.frozen
        have bP5l := bP5.lt
        have bX5c := bX5.cell
        have bX5f := bX5.frozen
        have bX5l := bX5.lt
        have bQ5c := bQ5.cell
        have bQ5f := bQ5.frozen
        have bQ5l := bQ5.lt
        have bY5c := bY5.cell
        have bY5f := bY5.frozen
        have bY5l := bY5.lt
        go_wp2_with (fail)
        refine calls_at (fun V6 hV => ?_)
        have kv : Up w5 V6 := by rw [hV]; (repeat (first | with_reducible exact Up.refl _ | with_reducible refine Up.alloc ?_ _ | with_reducible refine Up.drew ?_ | refine Up.setCell ?_ (by simp <;> omega) _))
        have bSv := bS5.up kv
        have bGv := bG5.up kv
        have bHv := bH5.up kv
        have bPv := bP5.up kv
        have bXv := bX5.up kv
        have bQv := bQ5.up kv
        have bYv := bY5.up kv
        have bRv : Blk V6 (w5.heap.size) 25 #[.slice AR (n + 1) cR, .slice BR s dR] := by rw [hV]; (repeat (first | with_reducible exact Blk.new' _ (by simp) _ _ | with_reducible refine Blk.alloc ?_ _ | with_reducible refine Blk.drew ?_ | refine Blk.far ?_ (by simp <;> omega) _))
        have bWv : Blk V6 (w5.heap.size + 1) 39 #[.int .i64 x2, .int .u64 0, .bool false] := by rw [hV]; (repeat (first | with_reducible exact Blk.new' _ (by simp) _ _ | with_reducible refine Blk.alloc ?_ _ | with_reducible refine Blk.drew ?_ | refine Blk.far ?_ (by simp <;> omega) _))
        have Uv : Up w V6 := U5.trans kv
        have sgv := sg5.up kv
        have sPv := sP5.up kv
        have sQv := sQ5.up kv
        have sRv := sR5.up kv
        clear hV kv bS5 bS5c bS5f bS5l bG5 bG5c bG5f bG5l bH5 bH5c bH5f bH5l bP5 bP5c bP5f bP5l bX5 bX5c bX5f bX5l bQ5 bQ5c bQ5f bQ5l bY5 bY5c bY5f bY5l U5 sg5 sP5 sQ5 sR5
        refine (D4.out V6 _ sPv).mono ?_
        rintro e w6 ⟨AZ, cZ, BZ, dZ, rfl, sZ6, k6⟩
        have bS6 := bSv.up k6
        have bG6 := bGv.up k6
        have bH6 := bHv.up k6
        have bP6 := bPv.up k6
        have bX6 := bXv.up k6
        have bQ6 := bQv.up k6
        have bY6 := bYv.up k6
        have bR6 := bRv.up k6
        have bW6 := bWv.up k6
        have U6 := Uv.trans k6
        have sg6 := sgv.up k6
        have sP6 := sPv.up k6
        have sQ6 := sQv.up k6
        have sR6 := sRv.up k6
        clear k6 Uv bSv bGv bHv bPv bXv bQv bYv bRv bWv sgv sPv sQv sRv
        have bS6c := bS6.cell
        have bS6f := bS6.frozen
        have bS6l := bS6.lt
        have bG6c := bG6.cell
        have bG6f := bG6.frozen
        have bG6l := bG6.lt
        have bH6c := bH6.cell
        have bH6f := bH6.frozen
        have bH6l := bH6.lt
        have bP6c := bP6.cell
        have bP6f := bP6.frozen
        have bP6l := bP6.lt
        have bX6c := bX6.cell
        have bX6f := bX6.frozen
        have bX6l := bX6.lt
        have bQ6c := bQ6.cell
        have bQ6f := bQ6.frozen
        have bQ6l := bQ6.lt
        have bY6c := bY6.cell
        have bY6f := bY6.frozen
        have bY6l := bY6.lt
        have bR6c := bR6.cell
        have bR6f := bR6.frozen
        have bR6l := bR6.lt
        have bW6c := bW6.cell
        have bW6f := bW6.frozen
        have bW6l := bW6.lt
        obtain ⟨pz, PZ, qz, rfl, hcz, hlz, hcy, hly⟩ := HROW.out _ _ _ _ _ sZ6
        have hcz := fun o1 o2 => Up.cell (((Up.refl w6).alloc o1).alloc o2) hcz
        have hcy6 : w6.cell? { block := PZ.block, off := PZ.off + (m + 1) } = some (.int .i64 0) := hcy
        clear hcy
        go_wp2
        go_ret
        refine ⟨rfl, ?_⟩
        (repeat (first | with_reducible exact U6 | with_reducible refine Up.alloc ?_ _ | with_reducible refine Up.drew ?_ | refine Up.setCell ?_ (by simp <;> omega) _))
    · have e1 := do_err he
      have HSM := Lib.hid (fun W' u (hu : GrV W' u g) (hu2 : GrV W' (.agg #[.slice Ag g.1.length Cg, .slice Bg g.2.length Dg]) g) => by
        have h := rsame_any u (.agg #[.slice Ag g.1.length Cg, .slice Bg g.2.length Dg]) g g W' hu hu2
        rw [decide_eq_true rfl] at h
        exact h)
      have hb : ((doG g th ⟨1, 0, 0, 0, 0, tt, ll, mm⟩).2.1 != 0) = true := bne_iff_ne.2 he
      generalize (doG g th ⟨1, 0, 0, 0, 0, tt, ll, mm⟩).2.1 = e at *
      have D1 := Lib.hid (do_at (n := g.1.length) (s := g.2.length) hok (i64k 1 (by omega)) u640 om e1 rfl rfl)
      have sg0 := hg
      clear hg hf hok hi hF he e1 ok1
      generalize g.1.length = n at *
      generalize g.2.length = s at *
      go_enter Try.func10, Try.ntmps10
      go_wp2_with (fail)
      refine calls_at (fun V1 hV => ?_)
      have kv : Up w V1 := by rw [hV]; (repeat (first | with_reducible exact Up.refl _ | with_reducible refine Up.alloc ?_ _ | with_reducible refine Up.drew ?_ | refine Up.setCell ?_ (by simp <;> omega) _))
      have bSv : Blk V1 (w.heap.size) 57 #[.slice Ag n Cg, .slice Bg s Dg, .int .i64 th, .int .i64 tt, .int .i64 ll, .int .u64 mm, .int .i64 ii, .int .i64 hh] := by rw [hV]; (repeat (first | with_reducible exact Blk.new' _ (by simp) _ _ | with_reducible refine Blk.alloc ?_ _ | with_reducible refine Blk.drew ?_ | refine Blk.far ?_ (by simp <;> omega) _))
      have bGv : Blk V1 (w.heap.size + 1) 25 #[.slice Ag n Cg, .slice Bg s Dg] := by rw [hV]; (repeat (first | with_reducible exact Blk.new' _ (by simp) _ _ | with_reducible refine Blk.alloc ?_ _ | with_reducible refine Blk.drew ?_ | refine Blk.far ?_ (by simp <;> omega) _))
      have bHv : Blk V1 (w.heap.size + 1 + 1) 28 #[.int .i64 tt, .int .i64 ll, .int .u64 mm] := by rw [hV]; (repeat (first | with_reducible exact Blk.new' _ (by simp) _ _ | with_reducible refine Blk.alloc ?_ _ | with_reducible refine Blk.drew ?_ | refine Blk.far ?_ (by simp <;> omega) _))
      have Uv : Up w V1 := kv
      have sgv := sg0.up kv
      clear hV kv sg0
      refine (HSH.out V1).mono ?_
      rintro e w1 ⟨rfl, k1⟩
      have bS1 := bSv.up k1
      have bG1 := bGv.up k1
      have bH1 := bHv.up k1
      have U1 := Uv.trans k1
      have sg1 := sgv.up k1
      clear k1 Uv bSv bGv bHv sgv
      have bS1c := bS1.cell
      have bS1f := bS1.frozen
      have bS1l := bS1.lt
      have bG1c := bG1.cell
      have bG1f := bG1.frozen
      have bG1l := bG1.lt
      have bH1c := bH1.cell
      have bH1f := bH1.frozen
      have bH1l := bH1.lt
      go_wp2_with (fail)
      refine calls_at (fun V2 hV => ?_)
      have kv : Up w1 V2 := by rw [hV]; (repeat (first | with_reducible exact Up.refl _ | with_reducible refine Up.alloc ?_ _ | with_reducible refine Up.drew ?_ | refine Up.setCell ?_ (by simp <;> omega) _))
      have bSv := bS1.up kv
      have bGv := bG1.up kv
      have bHv := bH1.up kv
      have Uv : Up w V2 := U1.trans kv
      have sgv := sg1.up kv
      clear hV kv bS1 bS1c bS1f bS1l bG1 bG1c bG1f bG1l bH1 bH1c bH1f bH1l U1 sg1
      refine (HFW.out V2 sgv).mono ?_
      rintro e w2 ⟨rfl, k2⟩
      have bS2 := bSv.up k2
      have bG2 := bGv.up k2
      have bH2 := bHv.up k2
      have U2 := Uv.trans k2
      have sg2 := sgv.up k2
      clear k2 Uv bSv bGv bHv sgv
      have bS2c := bS2.cell
      have bS2f := bS2.frozen
      have bS2l := bS2.lt
      have bG2c := bG2.cell
      have bG2f := bG2.frozen
      have bG2l := bG2.lt
      have bH2c := bH2.cell
      have bH2f := bH2.frozen
      have bH2l := bH2.lt
      go_wp2_with (fail)
      refine calls_at (fun V3 hV => ?_)
      have kv : Up w2 V3 := by rw [hV]; (repeat (first | with_reducible exact Up.refl _ | with_reducible refine Up.alloc ?_ _ | with_reducible refine Up.drew ?_ | refine Up.setCell ?_ (by simp <;> omega) _))
      have bSv := bS2.up kv
      have bGv := bG2.up kv
      have bHv := bH2.up kv
      have Uv : Up w V3 := U2.trans kv
      have sgv := sg2.up kv
      clear hV kv bS2 bS2c bS2f bS2l bG2 bG2c bG2f bG2l bH2 bH2c bH2f bH2l U2 sg2
      refine (D1.out V3 _ sgv).mono ?_
      rintro e w3 ⟨AP, cP, BP, dP, rfl, sP3, k3⟩
      have bS3 := bSv.up k3
      have bG3 := bGv.up k3
      have bH3 := bHv.up k3
      have U3 := Uv.trans k3
      have sg3 := sgv.up k3
      clear k3 Uv bSv bGv bHv sgv
      have bS3c := bS3.cell
      have bS3f := bS3.frozen
      have bS3l := bS3.lt
      have bG3c := bG3.cell
      have bG3f := bG3.frozen
      have bG3l := bG3.lt
      have bH3c := bH3.cell
      have bH3f := bH3.frozen
      have bH3l := bH3.lt
      go_wp2_with (fail)
      refine calls_at (fun V4 hV => ?_)
      have kv : Up w3 V4 := by rw [hV]; (repeat (first | with_reducible exact Up.refl _ | with_reducible refine Up.alloc ?_ _ | with_reducible refine Up.drew ?_ | refine Up.setCell ?_ (by simp <;> omega) _))
      have bSv := bS3.up kv
      have bGv := bG3.up kv
      have bHv := bH3.up kv
      have bPv : Blk V4 (w3.heap.size) 25 #[.slice AP n cP, .slice BP s dP] := by rw [hV]; (repeat (first | with_reducible exact Blk.new' _ (by simp) _ _ | with_reducible refine Blk.alloc ?_ _ | with_reducible refine Blk.drew ?_ | refine Blk.far ?_ (by simp <;> omega) _))
      have bXv : Blk V4 (w3.heap.size + 1) 39 #[.int .i64 e, .int .u64 0, .bool false] := by rw [hV]; (repeat (first | with_reducible exact Blk.new' _ (by simp) _ _ | with_reducible refine Blk.alloc ?_ _ | with_reducible refine Blk.drew ?_ | refine Blk.far ?_ (by simp <;> omega) _))
      have Uv : Up w V4 := U3.trans kv
      have sgv := sg3.up kv
      have sPv := sP3.up kv
      clear hV kv bS3 bS3c bS3f bS3l bG3 bG3c bG3f bG3l bH3 bH3c bH3f bH3l U3 sg3 sP3
      refine (HSM.out V4 _ sPv sgv).mono ?_
      rintro e w4 ⟨rfl, k4⟩
      have bS4 := bSv.up k4
      have bG4 := bGv.up k4
      have bH4 := bHv.up k4
      have bP4 := bPv.up k4
      have bX4 := bXv.up k4
      have U4 := Uv.trans k4
      have sg4 := sgv.up k4
      have sP4 := sPv.up k4
      clear k4 Uv bSv bGv bHv bPv bXv sgv sPv
      have bS4c := bS4.cell
      have bS4f := bS4.frozen
      have bS4l := bS4.lt
      have bG4c := bG4.cell
      have bG4f := bG4.frozen
      have bG4l := bG4.lt
      have bH4c := bH4.cell
      have bH4f := bH4.frozen
      have bH4l := bH4.lt
      have bP4c := bP4.cell
      have bP4f := bP4.frozen
      have bP4l := bP4.lt
      have bX4c := bX4.cell
      have bX4f := bX4.frozen
      have bX4l := bX4.lt
      go_wp2
      go_ret
      refine ⟨rfl, ?_⟩
      (repeat (first | with_reducible exact U4 | with_reducible refine Up.alloc ?_ _ | with_reducible refine Up.drew ?_ | refine Up.setCell ?_ (by simp <;> omega) _))
  · have hf' : fewB g = false := by simpa using hf
    rw [hf'] at HFW
    have sg0 := hg
    clear hg hf hf' hi
    generalize g.1.length = n at *
    generalize g.2.length = s at *
    go_enter Try.func10, Try.ntmps10
    go_wp2_with (fail)
    refine calls_at (fun V1 hV => ?_)
    have kv : Up w V1 := by rw [hV]; (repeat (first | with_reducible exact Up.refl _ | with_reducible refine Up.alloc ?_ _ | with_reducible refine Up.drew ?_ | refine Up.setCell ?_ (by simp <;> omega) _))
    have bSv : Blk V1 (w.heap.size) 57 #[.slice Ag n Cg, .slice Bg s Dg, .int .i64 th, .int .i64 tt, .int .i64 ll, .int .u64 mm, .int .i64 ii, .int .i64 hh] := by rw [hV]; (repeat (first | with_reducible exact Blk.new' _ (by simp) _ _ | with_reducible refine Blk.alloc ?_ _ | with_reducible refine Blk.drew ?_ | refine Blk.far ?_ (by simp <;> omega) _))
    have bGv : Blk V1 (w.heap.size + 1) 25 #[.slice Ag n Cg, .slice Bg s Dg] := by rw [hV]; (repeat (first | with_reducible exact Blk.new' _ (by simp) _ _ | with_reducible refine Blk.alloc ?_ _ | with_reducible refine Blk.drew ?_ | refine Blk.far ?_ (by simp <;> omega) _))
    have bHv : Blk V1 (w.heap.size + 1 + 1) 28 #[.int .i64 tt, .int .i64 ll, .int .u64 mm] := by rw [hV]; (repeat (first | with_reducible exact Blk.new' _ (by simp) _ _ | with_reducible refine Blk.alloc ?_ _ | with_reducible refine Blk.drew ?_ | refine Blk.far ?_ (by simp <;> omega) _))
    have Uv : Up w V1 := kv
    have sgv := sg0.up kv
    clear hV kv sg0
    refine (HSH.out V1).mono ?_
    rintro e w1 ⟨rfl, k1⟩
    have bS1 := bSv.up k1
    have bG1 := bGv.up k1
    have bH1 := bHv.up k1
    have U1 := Uv.trans k1
    have sg1 := sgv.up k1
    clear k1 Uv bSv bGv bHv sgv
    have bS1c := bS1.cell
    have bS1f := bS1.frozen
    have bS1l := bS1.lt
    have bG1c := bG1.cell
    have bG1f := bG1.frozen
    have bG1l := bG1.lt
    have bH1c := bH1.cell
    have bH1f := bH1.frozen
    have bH1l := bH1.lt
    go_wp2_with (fail)
    refine calls_at (fun V2 hV => ?_)
    have kv : Up w1 V2 := by rw [hV]; (repeat (first | with_reducible exact Up.refl _ | with_reducible refine Up.alloc ?_ _ | with_reducible refine Up.drew ?_ | refine Up.setCell ?_ (by simp <;> omega) _))
    have bSv := bS1.up kv
    have bGv := bG1.up kv
    have bHv := bH1.up kv
    have Uv : Up w V2 := U1.trans kv
    have sgv := sg1.up kv
    clear hV kv bS1 bS1c bS1f bS1l bG1 bG1c bG1f bG1l bH1 bH1c bH1f bH1l U1 sg1
    refine (HFW.out V2 sgv).mono ?_
    rintro e w2 ⟨rfl, k2⟩
    have bS2 := bSv.up k2
    have bG2 := bGv.up k2
    have bH2 := bHv.up k2
    have U2 := Uv.trans k2
    have sg2 := sgv.up k2
    clear k2 Uv bSv bGv bHv sgv
    have bS2c := bS2.cell
    have bS2f := bS2.frozen
    have bS2l := bS2.lt
    have bG2c := bG2.cell
    have bG2f := bG2.frozen
    have bG2l := bG2.lt
    have bH2c := bH2.cell
    have bH2f := bH2.frozen
    have bH2l := bH2.lt
    go_wp2
    go_ret
    refine ⟨rfl, ?_⟩
    (repeat (first | with_reducible exact U2 | with_reducible refine Up.alloc ?_ _ | with_reducible refine Up.drew ?_ | refine Up.setCell ?_ (by simp <;> omega) _))
theorem own : ownKnob Try.prog.godebug = none := by kernel_rfl
set_option maxRecDepth 100000 in
theorem contract (H : Type) (enc : TypeId × Value → H) (W : World) (base : Nat) (args : Array Value) (ds gs : List (DataW H)) (before : List MemPlace)
    (hval0 : ∀ (j : Nat) t v, Try.f10.params[j]? = some t → args[j]? = some v → Value.okWide Try.prog W .any base t v)
    (hW : DataW.Whole enc Try.prog Try.f10.params.toList Rows.graphFreshSpec.vars false W args.toList ds gs before) (hk : Rows.uptoSmall H (ds ++ gs) = true) :
    Calls Try.prog 10 args W fun e W' => ∃ v, e = .returned v ∧ Rows.graphFreshSpec.post enc Try.prog Try.f10 false true false false W args v W' := by
  have hval : ∀ (j : Nat) t v, Try.f10.params[j]? = some t → args[j]? = some v → Value.okWide Try.prog W .any base t v := hval0
  have hW' := hW
  obtain ⟨p, q, hA0, hV, rfl, hfz, hnd⟩ := hW
  have hA : DataW.TrodAll enc Try.prog W 0 (fun _ => true) true Try.f10.params.toList args.toList ds p := hA0
  rw [Try.params10] at hA hval
  obtain ⟨v0, vs0, d0, ds0, p0, q0, hargs, rfl, rfl, h0, r0⟩ := trodAll_cons hA
  obtain ⟨rfl, rfl, rfl⟩ := trodAll_nil r0
  obtain rfl : args = #[v0] := by cases args; simp_all
  obtain ⟨rfl, rfl⟩ := trodVars_none hV
  have hbk : Rows.uptoBulkAll [d0] ≤ 1048576 := of_decide_eq_true hk
  simp only [Rows.uptoBulkAll] at hbk
  clear hk
  have h0k := h0
  obtain ⟨Ag, Bg, Cg, Dg, g, th, tt, ll, mm, ii, hh, rfl, hg, hi, oth, om, oii, ohh⟩ := in_at (hval 0 57 v0 rfl rfl) h0
  clear hA0 hval0
  simp only [List.append_nil, List.nil_append] at hW'
  refine (walk Ag Bg Cg Dg g th tt ll mm ii hh (Rows.uptoBulk d0) W hg hi oth om oii ohh (by omega)).mono fun e W' ⟨he, hg⟩ => ?_
  subst he
  exact ⟨_, rfl, post_below (pa := p0) (pv := []) hW' (fun _ _ _ => (trodAll_cons_mk (shut_bool Try.underlying4 _) trodAll_mk0))
    (fun sp hsp => by
      have t := (trodAll_cons_mk (trod_keeps (sp := sp) (by kernel_rfl) (of_decide_eq_true (by kernel_rfl)) h0k hg (fun x hx => hW'.lt x (by simp [hx])) (fun x hx => hsp x (by simp [hx]))) trodAll_mk0)
      simp only [List.append_nil, List.nil_append] at t
      exact t) (fun _ _ => rfl) (by simp)
    hg (ok_one (by kernel_rfl) rfl (okWide_bool_mk Try.underlying4 _))⟩

set_option maxRecDepth 100000 in
theorem lifted (os : Os) (started : os.Started) (H : Type) (enc : TypeId × Value → H) (F : Stop.Interp) :
    ReturnsInHanded {} Try.checked os 10 .any ((Rows.OpenSpec.upto Rows.graphFreshSpec).pre6 enc Try.prog Try.f10 Rows.graphFreshUptoRow.domain false) (((Rows.OpenSpec.upto Rows.graphFreshSpec).at F).post enc Try.prog Try.f10 false true false false) := by
  refine returnsInHanded_of_cond (C := Try.checked) (s := Rows.OpenSpec.upto Rows.graphFreshSpec) (k := Rows.uptoSmall) rfl own started (by kernel_rfl) Try.func10
    (OpenSpec.witness (enc := enc) (C := Try.checked) (s := Rows.OpenSpec.upto Rows.graphFreshSpec) (k := Rows.uptoSmall) rfl false ⟨#[], #[.agg #[.slice none 0 0, .slice none 0 0, .int .i64 0, .int .i64 0, .int .i64 0, .int .u64 0, .int .i64 0, .int .i64 0]], []⟩ 8 (by kernel_rfl) (by kernel_rfl) (by kernel_rfl)
      (x := ([.agg [.agg [.nil, .nil], .lit (.int .i64 0), .agg [.lit (.int .i64 0), .lit (.int .i64 0), .lit (.int .u64 0)], .lit (.int .i64 0), .lit (.int .i64 0)]], [], [])) (by kernel_rfl) rfl (by kernel_rfl)) ?_
  intro W base args ds gs before hval hW _ hk _
  exact contract H enc W base args ds gs before hval hW hk

set_option maxRecDepth 100000 in
theorem over : Rows.graphFreshUptoRow.holds Try.pinned (Rows.OpenSpec.upto Rows.graphFreshSpec) :=
  OpenClaim.holds_of_cond 10 Try.f10 rfl rfl rfl rfl rfl rfl rfl ⟨rfl, rfl, rfl, rfl, rfl⟩ rfl rfl rfl rfl rfl (by kernel_rfl) Try.func10 (by kernel_rfl)
    (of_decide_eq_true (by kernel_rfl)) (by unfold Func.isWrapper; first | (rw [if_pos (by decide +kernel)]; kernel_rfl) | (rw [if_neg (by decide +kernel)]; exact ⟨rfl, rfl⟩))
    (fun os started H enc _ F => lifted os started H enc F)

theorem proved : Rows.GraphFreshUptoSaid :=
  over
#print axioms proved
end Go.Proofs.Ytlocllcijncllaa.LGraphFresh
