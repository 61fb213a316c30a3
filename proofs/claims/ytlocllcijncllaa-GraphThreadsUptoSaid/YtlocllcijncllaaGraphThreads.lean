/- GraphThreads, of all graphs that a machine can hold: it tells true, and changes nothing that it was handed. -/
import Derived.Test.YtlocllcijncllaaPe
namespace Go.Proofs.Ytlocllcijncllaa.LGraphThreads
open Go.Joins Go.ChangeShapes Go.WideShapes Go.ChangeAt Go.RowKit Go.Deep Go.Shelf Go.Maps
set_option linter.unusedVariables false
set_option linter.unusedSimpArgs false

set_option maxRecDepth 100000 in
theorem graph_at {H : Type} {enc : TypeId × Value → H} {w : World} {r : Reach} {b0 : Nat} {v : Value} {d : DataW H} {p : List MemPlace} (hv : Value.okWide Try.prog w r b0 25 v) (h : DataW.Trod enc Try.prog w 0 (fun _ => true) true 25 v d p) :
    ∃ g, GrV w v g ∧ GrIn g (Rows.uptoBulk d) := by
  obtain ⟨⟨l⟩, rfl, hsz⟩ := okWide_struct Try.underlying25 hv
  obtain ⟨fuel, hf⟩ := h
  obtain ⟨a, b, g, e, h1, h2⟩ := graph_cells (x := (d, p)) (cs := l) hf
  subst e
  exact ⟨g, h1, h2⟩
set_option maxRecDepth 100000 in
theorem op_at {H : Type} {enc : TypeId × Value → H} {w : World} {r : Reach} {b0 : Nat} {v : Value} {d : DataW H} {p : List MemPlace} (hv : Value.okWide Try.prog w r b0 30 v) (h : DataW.Trod enc Try.prog w 0 (fun _ => true) true 30 v d p) :
    ∃ kd hh i k u t l m : Int, v = .agg #[.int .i64 kd, .int .i64 hh, .int .i64 i, .int .i64 k, .int .u64 u, .int .i64 t, .int .i64 l, .int .u64 m] ∧ I64 kd ∧ I64 hh ∧ I64 i ∧ I64 k ∧ U64 u ∧ U64 m := by
  obtain ⟨⟨l⟩, rfl, hsz⟩ := okWide_struct Try.underlying30 hv
  obtain ⟨fuel, hf⟩ := h
  obtain ⟨a0, a1, a2, a3, a4, a5, a6, a7, e, r⟩ := op_cells (x := (d, p)) (cs := l) hf
  subst e
  exact ⟨a0, a1, a2, a3, a4, a5, a6, a7, rfl, r⟩
/-- The loop over a thread's row: how far it is. -/
def RT (w3 : World) (m a b : Nat) (ca cb : Array Value) (i : Value) (wr : World) : Prop := ∃ x : Nat, x ≤ m ∧ i = .int .i64 x ∧ Blk wr a 25 ca ∧ Blk wr b 25 cb ∧ Up w3 wr
theorem cells_in : Try.prog.cellsOf 46 = 12 := by kernel_rfl
set_option maxRecDepth 100000 in
set_option maxHeartbeats 1000000 in
theorem in_cells {H : Type} {enc : TypeId × Value → H} {w : World} {fuel : Nat} {cs : List Value} {x : DataW H × List MemPlace} (h : DataW.trod enc Try.prog w 0 (fun _ => true) true fuel 46 cs = some x) : ∃ (Ag Bg : Option Addr) (Cg Dg : Nat) (g : Gr) (th : Int) (kd hh ii kk vv tt ll mm : Int) (xx : Int), cs = [.slice Ag g.1.length Cg, .slice Bg g.2.length Dg, .int .i64 th, .int .i64 kd, .int .i64 hh, .int .i64 ii, .int .i64 kk, .int .u64 vv, .int .i64 tt, .int .i64 ll, .int .u64 mm, .int .i64 xx] ∧ GrV w (.agg #[.slice Ag g.1.length Cg, .slice Bg g.2.length Dg]) g ∧ GrIn g (Rows.uptoBulk x.1) ∧ I64 th ∧ I64 kd ∧ U64 vv ∧ U64 mm ∧ I64 xx := by
  obtain ⟨ys, n, _, hd, hcl, hlen, hg⟩ := DataW.trod_struct Try.underlying46 h
  rw [cells_in] at hcl
  match cs, hcl with
  | [c0, c1, c2, c3, c4, c5, c6, c7, c8, c9, c10, c11], _ =>
    have f0 := hg 0 _ rfl
    have f1 := hg 1 _ rfl
    have f2 := hg 2 _ rfl
    have f3 := hg 3 _ rfl
    match ys, hlen with
    | [y0, y1, y2, y3], _ =>
      change DataW.trod enc Try.prog w 0 (fun _ => true) true n 25 (([c0, c1, c2, c3, c4, c5, c6, c7, c8, c9, c10, c11].drop 0).take (Try.prog.cellsOf 25)) = some y0 at f0
      rw [cells_graph] at f0
      change DataW.trod enc Try.prog w 0 (fun _ => true) true n 3 (([c0, c1, c2, c3, c4, c5, c6, c7, c8, c9, c10, c11].drop 2).take (Try.prog.cellsOf 3)) = some y1 at f1
      rw [cells_int] at f1
      change DataW.trod enc Try.prog w 0 (fun _ => true) true n 30 (([c0, c1, c2, c3, c4, c5, c6, c7, c8, c9, c10, c11].drop 3).take (Try.prog.cellsOf 30)) = some y2 at f2
      rw [cells_op] at f2
      change DataW.trod enc Try.prog w 0 (fun _ => true) true n 3 (([c0, c1, c2, c3, c4, c5, c6, c7, c8, c9, c10, c11].drop 11).take (Try.prog.cellsOf 3)) = some y3 at f3
      rw [cells_int] at f3
      obtain ⟨a0, b0, g0, e, hg0, hi0⟩ := graph_cells (cs := [c0, c1]) f0
      simp only [List.cons.injEq, and_true] at e
      obtain ⟨rfl, rfl⟩ := e
      obtain ⟨A0, C0, B0, D0, e, -⟩ := hg0.form
      have e := congrArg (fun v => match v with | Value.agg l => l.toList | _ => []) e
      simp only [List.cons.injEq, and_true] at e
      obtain ⟨rfl, rfl⟩ := e
      obtain ⟨a1, rfl, h1⟩ := int_at (v := c2) f1
      obtain ⟨k2, p2, q2, r2, u2, t2, l2, m2, e, z2, -, -, -, y2', h2⟩ := op_cells (cs := [c3, c4, c5, c6, c7, c8, c9, c10]) f2
      simp only [List.cons.injEq, and_true] at e
      obtain ⟨rfl, rfl, rfl, rfl, rfl, rfl, rfl, rfl⟩ := e
      obtain ⟨a3, rfl, h3⟩ := int_at (v := c11) f3
      obtain ⟨d, p⟩ := x
      simp only [Prod.mk.injEq] at hd
      obtain ⟨rfl, -⟩ := hd
      refine ⟨A0, B0, C0, D0, g0, a1, k2, p2, q2, r2, u2, t2, l2, m2, a3, rfl, hg0, ⟨hi0.nd, ?_⟩, h1, z2, y2', h2, h3⟩
      · have := hi0.st
        simp only [Rows.uptoBulk, List.map_cons, List.map_nil, Rows.uptoBulkAll]
        omega
set_option maxRecDepth 100000 in
theorem in_at {H : Type} {enc : TypeId × Value → H} {w : World} {r : Reach} {b0 : Nat} {v : Value} {d : DataW H} {p : List MemPlace} (hv : Value.okWide Try.prog w r b0 46 v) (h : DataW.Trod enc Try.prog w 0 (fun _ => true) true 46 v d p) : ∃ (Ag Bg : Option Addr) (Cg Dg : Nat) (g : Gr) (th : Int) (kd hh ii kk vv tt ll mm : Int) (xx : Int), v = .agg #[.slice Ag g.1.length Cg, .slice Bg g.2.length Dg, .int .i64 th, .int .i64 kd, .int .i64 hh, .int .i64 ii, .int .i64 kk, .int .u64 vv, .int .i64 tt, .int .i64 ll, .int .u64 mm, .int .i64 xx] ∧ GrV w (.agg #[.slice Ag g.1.length Cg, .slice Bg g.2.length Dg]) g ∧ GrIn g (Rows.uptoBulk d) ∧ I64 th ∧ I64 kd ∧ U64 vv ∧ U64 mm ∧ I64 xx := by
  obtain ⟨⟨l⟩, rfl, hsz⟩ := okWide_struct Try.underlying46 hv
  obtain ⟨fuel, hf⟩ := h
  obtain ⟨Ag, Bg, Cg, Dg, g, th, kd, hh, ii, kk, vv, tt, ll, mm, xx, e, hr⟩ := in_cells (x := (d, p)) (cs := l) hf
  subst e
  exact ⟨Ag, Bg, Cg, Dg, g, th, kd, hh, ii, kk, vv, tt, ll, mm, xx, rfl, hr⟩
set_option maxRecDepth 100000 in
set_option maxHeartbeats 8000000 in
theorem walk (Ag : Option Addr) (Bg : Option Addr) (Cg : Nat) (Dg : Nat) (g : Gr) (th : Int) (kd : Int) (hh : Int) (ii : Int) (kk : Int) (vv : Int) (tt : Int) (ll : Int) (mm : Int) (xx : Int) (B : Nat) (w : World) (hg : GrV w (.agg #[.slice Ag g.1.length Cg, .slice Bg g.2.length Dg]) g) (hi : GrIn g B) (oth : I64 th) (o1 : I64 kd) (o5 : U64 vv) (o6 : U64 mm) (oxx : I64 xx) (hB : B ≤ 1048576) :
    Calls Try.prog 6 #[.agg #[.slice Ag g.1.length Cg, .slice Bg g.2.length Dg, .int .i64 th, .int .i64 kd, .int .i64 hh, .int .i64 ii, .int .i64 kk, .int .u64 vv, .int .i64 tt, .int .i64 ll, .int .u64 mm, .int .i64 xx]] w fun e w' => e = .returned (.bool true) ∧ Up w w' := by
  obtain ⟨_, _, _, _, -, m1, m2⟩ := hg.form
  have HSH := Lib.hid shown_any
  have HFW := Lib.hid (fun W' (u : GrV W' (.agg #[.slice Ag g.1.length Cg, .slice Bg g.2.length Dg]) g) => few_any (.agg #[.slice Ag g.1.length Cg, .slice Bg g.2.length Dg]) g W' u hi.nd)
  by_cases hf : fewB g = true
  · by_cases hx0 : xx < 0
    · have d1 : decide (xx < 0) = true := decide_eq_true hx0
      rw [hf] at HFW
      have sg0 := hg
      clear hg hf hi
      generalize g.1.length = n at *
      generalize g.2.length = s at *
      go_enter Try.func6, Try.ntmps6
      go_wp2_with (fail)
      refine calls_at (fun V1 hV => ?_)
      have kv : Up w V1 := by rw [hV]; (repeat (first | with_reducible exact Up.refl _ | with_reducible refine Up.alloc ?_ _ | with_reducible refine Up.drew ?_ | refine Up.setCell ?_ (by simp <;> omega) _))
      have bSv : Blk V1 (w.heap.size) 46 #[.slice Ag n Cg, .slice Bg s Dg, .int .i64 th, .int .i64 kd, .int .i64 hh, .int .i64 ii, .int .i64 kk, .int .u64 vv, .int .i64 tt, .int .i64 ll, .int .u64 mm, .int .i64 xx] := by rw [hV]; (repeat (first | with_reducible exact Blk.new' _ (by simp) _ _ | with_reducible refine Blk.alloc ?_ _ | with_reducible refine Blk.drew ?_ | refine Blk.far ?_ (by simp <;> omega) _))
      have bGv : Blk V1 (w.heap.size + 1) 25 #[.slice Ag n Cg, .slice Bg s Dg] := by rw [hV]; (repeat (first | with_reducible exact Blk.new' _ (by simp) _ _ | with_reducible refine Blk.alloc ?_ _ | with_reducible refine Blk.drew ?_ | refine Blk.far ?_ (by simp <;> omega) _))
      have bOv : Blk V1 (w.heap.size + 1 + 1) 30 #[.int .i64 kd, .int .i64 hh, .int .i64 ii, .int .i64 kk, .int .u64 vv, .int .i64 tt, .int .i64 ll, .int .u64 mm] := by rw [hV]; (repeat (first | with_reducible exact Blk.new' _ (by simp) _ _ | with_reducible refine Blk.alloc ?_ _ | with_reducible refine Blk.drew ?_ | refine Blk.far ?_ (by simp <;> omega) _))
      have Uv : Up w V1 := kv
      have sgv := sg0.up kv
      clear hV kv sg0
      refine (HSH.out V1).mono ?_
      rintro e w1 ⟨rfl, k1⟩
      have bS1 := bSv.up k1
      have bG1 := bGv.up k1
      have bO1 := bOv.up k1
      have U1 := Uv.trans k1
      have sg1 := sgv.up k1
      clear k1 Uv bSv bGv bOv sgv
      have bS1c := bS1.cell
      have bS1f := bS1.frozen
      have bS1l := bS1.lt
      have bG1c := bG1.cell
      have bG1f := bG1.frozen
      have bG1l := bG1.lt
      have bO1c := bO1.cell
      have bO1f := bO1.frozen
      have bO1l := bO1.lt
      go_wp2_with (fail)
      refine calls_at (fun V2 hV => ?_)
      have kv : Up w1 V2 := by rw [hV]; (repeat (first | with_reducible exact Up.refl _ | with_reducible refine Up.alloc ?_ _ | with_reducible refine Up.drew ?_ | refine Up.setCell ?_ (by simp <;> omega) _))
      have bSv := bS1.up kv
      have bGv := bG1.up kv
      have bOv := bO1.up kv
      have Uv : Up w V2 := U1.trans kv
      have sgv := sg1.up kv
      clear hV kv bS1 bS1c bS1f bS1l bG1 bG1c bG1f bG1l bO1 bO1c bO1f bO1l U1 sg1
      refine (HFW.out V2 sgv).mono ?_
      rintro e w2 ⟨rfl, k2⟩
      have bS2 := bSv.up k2
      have bG2 := bGv.up k2
      have bO2 := bOv.up k2
      have U2 := Uv.trans k2
      have sg2 := sgv.up k2
      clear k2 Uv bSv bGv bOv sgv
      have bS2c := bS2.cell
      have bS2f := bS2.frozen
      have bS2l := bS2.lt
      have bG2c := bG2.cell
      have bG2f := bG2.frozen
      have bG2l := bG2.lt
      have bO2c := bO2.cell
      have bO2f := bO2.frozen
      have bO2l := bO2.lt
      go_wp2
      go_ret
      refine ⟨rfl, ?_⟩
      (repeat (first | with_reducible exact U2 | with_reducible refine Up.alloc ?_ _ | with_reducible refine Up.drew ?_ | refine Up.setCell ?_ (by simp <;> omega) _))
    · obtain ⟨j, rfl⟩ : ∃ j : Nat, xx = j := ⟨xx.toNat, by omega⟩
      have d1 : decide ((j : Int) < 0) = false := decide_eq_false (by omega)
      rw [hf] at HFW
      by_cases hjs : j < g.2.length
      · have d2 : decide ((j : Int) ≥ (g.2.length : Int)) = false := decide_eq_false (by omega)
        have hF := (few_of hf hi).okk hB
        have hok := hF.ok (by omega)
        obtain ⟨kn, ks, n1, s1, e, x, y, hd, hn1, hs1, D1⟩ := do_let g th kd hh ii kk vv tt ll mm hok o1 o5 o6
        have D1 := Lib.hid D1
        obtain ⟨hrn, hrw⟩ := do_rows (g := g) (th := th) (o := ⟨kd, hh, ii, kk, vv, tt, ll, mm⟩) (j := (j : Int)) (by omega)
        have hsl := (do_len (g := g) (th := th) (o := ⟨kd, hh, ii, kk, vv, tt, ll, mm⟩)).1
        rw [hd] at hrn hrw hsl
        simp only [] at hrn hrw hsl
        rw [hs1] at hsl
        have hs2 : ks.length = g.2.length := by rw [hs1]; exact hsl
        rw [hsl] at D1
        obtain ⟨pr, PR, qr, rfl, hc0, hl0, hs0⟩ := hg.row_at hjs
        have HS0 := Lib.hid hs0
        have HHC := Lib.hid (fun W' (k : Up w W') => (Up.cell k hc0 : W'.cell? (pr.add j) = _))
        have HHL := Lib.hid (fun W' (k : Up w W') => (k.lt hl0 : pr.block < W'.heap.size))
        have HROW := Lib.hid (fun W' A c B d (h : GrV W' (.agg #[.slice A n1 c, .slice B g.2.length d]) (kn, ks)) => h.row_at (j := j) (by show j < ks.length; omega))
        generalize rowOf g j = r0 at *
        generalize rowOf (kn, ks) j = r1 at *
        have hmx := HS0.out.max
        unfold maxLen at hmx
        have hcs : (¬ (j : Int) = th ∧ r1 = r0) ∨ ((j : Int) = th ∧ (kd = 4 ∨ kd = 5 ∨ kd = 6 ∨ kd = 7 ∨ kd = 2 ∨ kd = 8) ∧ r1 = r0) ∨ ((j : Int) = th ∧ (¬ kd = 4 ∧ ¬ kd = 5 ∧ ¬ kd = 6 ∧ ¬ kd = 7 ∧ ¬ kd = 2 ∧ ¬ kd = 8) ∧ r1.length ≤ r0.length + 1 ∧ r0.length ≤ r1.length + 1) := by
          by_cases q1 : (j : Int) = th
          · by_cases q2 : kd = 4 ∨ kd = 5 ∨ kd = 6 ∨ kd = 7 ∨ kd = 2 ∨ kd = 8
            · exact .inr (.inl ⟨q1, q2, hrw (.inr q2)⟩)
            · exact .inr (.inr ⟨q1, by simpa only [not_or] using q2, hrn⟩)
          · exact .inl ⟨q1, hrw (.inl q1)⟩
        have sg0 := hg
        clear hg hf hi hF hok hd hn1 hs1 hs2 hsl hx0 hs0 hc0 hl0
        generalize g.1.length = n at *
        generalize g.2.length = s at *
        go_enter Try.func6, Try.ntmps6
        go_wp2_with (fail)
        refine calls_at (fun V1 hV => ?_)
        have kv : Up w V1 := by rw [hV]; (repeat (first | with_reducible exact Up.refl _ | with_reducible refine Up.alloc ?_ _ | with_reducible refine Up.drew ?_ | refine Up.setCell ?_ (by simp <;> omega) _))
        have bSv : Blk V1 (w.heap.size) 46 #[.slice Ag n Cg, .slice (some pr) s Dg, .int .i64 th, .int .i64 kd, .int .i64 hh, .int .i64 ii, .int .i64 kk, .int .u64 vv, .int .i64 tt, .int .i64 ll, .int .u64 mm, .int .i64 (j : Int)] := by rw [hV]; (repeat (first | with_reducible exact Blk.new' _ (by simp) _ _ | with_reducible refine Blk.alloc ?_ _ | with_reducible refine Blk.drew ?_ | refine Blk.far ?_ (by simp <;> omega) _))
        have bGv : Blk V1 (w.heap.size + 1) 25 #[.slice Ag n Cg, .slice (some pr) s Dg] := by rw [hV]; (repeat (first | with_reducible exact Blk.new' _ (by simp) _ _ | with_reducible refine Blk.alloc ?_ _ | with_reducible refine Blk.drew ?_ | refine Blk.far ?_ (by simp <;> omega) _))
        have bOv : Blk V1 (w.heap.size + 1 + 1) 30 #[.int .i64 kd, .int .i64 hh, .int .i64 ii, .int .i64 kk, .int .u64 vv, .int .i64 tt, .int .i64 ll, .int .u64 mm] := by rw [hV]; (repeat (first | with_reducible exact Blk.new' _ (by simp) _ _ | with_reducible refine Blk.alloc ?_ _ | with_reducible refine Blk.drew ?_ | refine Blk.far ?_ (by simp <;> omega) _))
        have Uv : Up w V1 := kv
        have sgv := sg0.up kv
        clear hV kv sg0
        refine (HSH.out V1).mono ?_
        rintro e w1 ⟨rfl, k1⟩
        have bS1 := bSv.up k1
        have bG1 := bGv.up k1
        have bO1 := bOv.up k1
        have U1 := Uv.trans k1
        have sg1 := sgv.up k1
        clear k1 Uv bSv bGv bOv sgv
        have bS1c := bS1.cell
        have bS1f := bS1.frozen
        have bS1l := bS1.lt
        have bG1c := bG1.cell
        have bG1f := bG1.frozen
        have bG1l := bG1.lt
        have bO1c := bO1.cell
        have bO1f := bO1.frozen
        have bO1l := bO1.lt
        go_wp2_with (fail)
        refine calls_at (fun V2 hV => ?_)
        have kv : Up w1 V2 := by rw [hV]; (repeat (first | with_reducible exact Up.refl _ | with_reducible refine Up.alloc ?_ _ | with_reducible refine Up.drew ?_ | refine Up.setCell ?_ (by simp <;> omega) _))
        have bSv := bS1.up kv
        have bGv := bG1.up kv
        have bOv := bO1.up kv
        have Uv : Up w V2 := U1.trans kv
        have sgv := sg1.up kv
        clear hV kv bS1 bS1c bS1f bS1l bG1 bG1c bG1f bG1l bO1 bO1c bO1f bO1l U1 sg1
        refine (HFW.out V2 sgv).mono ?_
        rintro e w2 ⟨rfl, k2⟩
        have bS2 := bSv.up k2
        have bG2 := bGv.up k2
        have bO2 := bOv.up k2
        have U2 := Uv.trans k2
        have sg2 := sgv.up k2
        clear k2 Uv bSv bGv bOv sgv
        have bS2c := bS2.cell
        have bS2f := bS2.frozen
        have bS2l := bS2.lt
        have bG2c := bG2.cell
        have bG2f := bG2.frozen
        have bG2l := bG2.lt
        have bO2c := bO2.cell
        have bO2f := bO2.frozen
        have bO2l := bO2.lt
        go_wp2_with (fail)
        refine calls_at (fun V3 hV => ?_)
        have kv : Up w2 V3 := by rw [hV]; (repeat (first | with_reducible exact Up.refl _ | with_reducible refine Up.alloc ?_ _ | with_reducible refine Up.drew ?_ | refine Up.setCell ?_ (by simp <;> omega) _))
        have bSv := bS2.up kv
        have bGv := bG2.up kv
        have bOv := bO2.up kv
        have Uv : Up w V3 := U2.trans kv
        have sgv := sg2.up kv
        clear hV kv bS2 bS2c bS2f bS2l bG2 bG2c bG2f bG2l bO2 bO2c bO2f bO2l U2 sg2
        refine (D1.out V3 _ sgv).mono ?_
        rintro e w3 ⟨AK, cK, BK, dK, rfl, sK3, k3⟩
        have bS3 := bSv.up k3
        have bG3 := bGv.up k3
        have bO3 := bOv.up k3
        have U3 := Uv.trans k3
        have sg3 := sgv.up k3
        clear k3 Uv bSv bGv bOv sgv
        have bS3c := bS3.cell
        have bS3f := bS3.frozen
        have bS3l := bS3.lt
        have bG3c := bG3.cell
        have bG3f := bG3.frozen
        have bG3l := bG3.lt
        have bO3c := bO3.cell
        have bO3f := bO3.frozen
        have bO3l := bO3.lt
        have hcr := fun o1 o2 => HHC.out _ ((U3.alloc o1).alloc o2)
        have hlr := HHL.out _ U3
        obtain ⟨pz, PZ, qz, rfl, hcz, hlz, hsz⟩ := HROW.out _ _ _ _ _ sK3
        have hcz0 := hcz
        have hcz := fun o1 o2 => Up.cell (((Up.refl w3).alloc o1).alloc o2) hcz
        have HSZ := Lib.hid hsz
        clear hsz HROW HSH HFW D1
        rcases hcs with ⟨hc0, hrr⟩ | ⟨hjt, hk, hrr⟩ | ⟨hjt, ⟨k1, k2, k3, k4, k5, k6⟩, hn1, hn2⟩
        · subst hrr
          generalize hm0 : r1.length = m0 at *
          have HM0 := Lib.hid hm0
          have HW := Lib.hid (fun W' (k : Up w3 W') => And.intro (HHC.out _ (U3.trans k)) (HHL.out _ (U3.trans k)))
          have HZ := Lib.hid (fun W' (k : Up w3 W') => And.intro (Up.cell k hcz0) (k.lt hlz))
          have HSR := Lib.hid (fun W' (k : Up w3 W') => HS0.out.up (U3.trans k))
          have HSY := Lib.hid (fun W' (k : Up w3 W') => HSZ.out.up k)
          have HBG := Lib.hid (bG3)
          have HU3 := Lib.hid U3
          clear hrn hm0 HHC HHL HS0 HSZ
          go_wp2_with (fail)
          all_goals
            go_loopw [14] (fun i wr => RT w3 m0 (w.heap.size + 1) w3.heap.size #[.slice Ag n Cg, .slice (some pr) s Dg] #[.slice AK n1 cK, .slice (some pz) s dK] i wr) (fun i _ => m0 - (intOf i).toNat)
            case atStart => exact ⟨0, Nat.zero_le _, rfl, (HBG.out.alloc _).alloc _, (Blk.new _ _ _).alloc _, ((Up.refl w3).alloc _).alloc _⟩
            case round =>
              clear hcr hlr hcz hlz hcz0
              rename World => w5
              obtain ⟨x, hx, rfl, b1, b2, hU⟩ := hrel
              have q1 := b1.cell
              have l1 := b1.lt
              have q2 := b2.cell
              have l2 := b2.lt
              have B1 := Lib.hid b1
              have B2 := Lib.hid b2
              have HU := Lib.hid hU
              obtain ⟨hcr, hlr⟩ := HW.out _ hU
              obtain ⟨hcz, hlz⟩ := HZ.out _ hU
              by_cases hlt : x < m0
              · obtain ⟨p1, rfl, hv1⟩ := (HSR.out _ hU).at_ hlt
                obtain ⟨p2, rfl, hv2⟩ := (HSY.out _ hU).at_ hlt
                have hb1 := lt_of_cell hv1
                have hb2 := lt_of_cell hv2
                rw [block_of_add] at hb1 hb2
                clear b1 b2 hU HW HZ HSR HSY
                generalize r1.getD x 0 = hv at *
                go_wp2
                go_quiet (fail)
                go_wp2
                refine ⟨⟨x + 1, by omega, by go_num, B1.out.up ((Up.refl w5).drewN _), B2.out.up ((Up.refl w5).drewN _), HU.out.drewN _⟩, by simp [intOf]; omega⟩
              · clear b1 b2 hU HW HZ HSR HSY
                go_wp2
                go_ret
                exact ⟨rfl, HU3.out.trans HU.out⟩
        · subst hrr
          subst hjt
          rcases hk with rfl | rfl | rfl | rfl | rfl | rfl
          all_goals
            generalize hm0 : r1.length = m0 at *
            have HM0 := Lib.hid hm0
            have HW := Lib.hid (fun W' (k : Up w3 W') => And.intro (HHC.out _ (U3.trans k)) (HHL.out _ (U3.trans k)))
            have HZ := Lib.hid (fun W' (k : Up w3 W') => And.intro (Up.cell k hcz0) (k.lt hlz))
            have HSR := Lib.hid (fun W' (k : Up w3 W') => HS0.out.up (U3.trans k))
            have HSY := Lib.hid (fun W' (k : Up w3 W') => HSZ.out.up k)
            have HBG := Lib.hid (bG3)
            have HU3 := Lib.hid U3
            clear hrn hm0 HHC HHL HS0 HSZ
            go_wp2_with (fail)
            all_goals
              go_loopw [14] (fun i wr => RT w3 m0 (w.heap.size + 1) w3.heap.size #[.slice Ag n Cg, .slice (some pr) s Dg] #[.slice AK n1 cK, .slice (some pz) s dK] i wr) (fun i _ => m0 - (intOf i).toNat)
              case atStart => exact ⟨0, Nat.zero_le _, rfl, (HBG.out.alloc _).alloc _, (Blk.new _ _ _).alloc _, ((Up.refl w3).alloc _).alloc _⟩
              case round =>
                clear hcr hlr hcz hlz hcz0
                rename World => w5
                obtain ⟨x, hx, rfl, b1, b2, hU⟩ := hrel
                have q1 := b1.cell
                have l1 := b1.lt
                have q2 := b2.cell
                have l2 := b2.lt
                have B1 := Lib.hid b1
                have B2 := Lib.hid b2
                have HU := Lib.hid hU
                obtain ⟨hcr, hlr⟩ := HW.out _ hU
                obtain ⟨hcz, hlz⟩ := HZ.out _ hU
                by_cases hlt : x < m0
                · obtain ⟨p1, rfl, hv1⟩ := (HSR.out _ hU).at_ hlt
                  obtain ⟨p2, rfl, hv2⟩ := (HSY.out _ hU).at_ hlt
                  have hb1 := lt_of_cell hv1
                  have hb2 := lt_of_cell hv2
                  rw [block_of_add] at hb1 hb2
                  clear b1 b2 hU HW HZ HSR HSY
                  generalize r1.getD x 0 = hv at *
                  go_wp2
                  go_quiet (fail)
                  go_wp2
                  refine ⟨⟨x + 1, by omega, by go_num, B1.out.up ((Up.refl w5).drewN _), B2.out.up ((Up.refl w5).drewN _), HU.out.drewN _⟩, by simp [intOf]; omega⟩
                · clear b1 b2 hU HW HZ HSR HSY
                  go_wp2
                  go_ret
                  exact ⟨rfl, HU3.out.trans HU.out⟩
        · subst hjt
          generalize r0.length = m0 at *
          generalize r1.length = m1 at *
          clear HSZ HS0 HHC HHL
          have q1 : decide ((m1 : Int) - (m0 : Int) ≥ -1) = true := decide_eq_true (by omega)
          have q2 : decide ((m1 : Int) - (m0 : Int) ≤ 1) = true := decide_eq_true (by omega)
          have b1 : (kd == 4) = false := by simpa using k1
          have b2 : (kd == 5) = false := by simpa using k2
          have b3 : (kd == 6) = false := by simpa using k3
          have b4 : (kd == 7) = false := by simpa using k4
          have b5 : (kd == 2) = false := by simpa using k5
          have b6 : (kd == 8) = false := by simpa using k6
          go_wp2_with (fail)
          go_ret
          refine ⟨rfl, ?_⟩
          (repeat (first | with_reducible exact U3 | with_reducible refine Up.alloc ?_ _ | with_reducible refine Up.drew ?_ | refine Up.setCell ?_ (by simp <;> omega) _))
      · have d2 : decide ((j : Int) ≥ (g.2.length : Int)) = true := decide_eq_true (by omega)
        have sg0 := hg
        have hjs2 : g.2.length ≤ j := by omega
        clear hg hf hi hjs
        generalize g.1.length = n at *
        generalize g.2.length = s at *
        go_enter Try.func6, Try.ntmps6
        go_wp2_with (fail)
        refine calls_at (fun V1 hV => ?_)
        have kv : Up w V1 := by rw [hV]; (repeat (first | with_reducible exact Up.refl _ | with_reducible refine Up.alloc ?_ _ | with_reducible refine Up.drew ?_ | refine Up.setCell ?_ (by simp <;> omega) _))
        have bSv : Blk V1 (w.heap.size) 46 #[.slice Ag n Cg, .slice Bg s Dg, .int .i64 th, .int .i64 kd, .int .i64 hh, .int .i64 ii, .int .i64 kk, .int .u64 vv, .int .i64 tt, .int .i64 ll, .int .u64 mm, .int .i64 (j : Int)] := by rw [hV]; (repeat (first | with_reducible exact Blk.new' _ (by simp) _ _ | with_reducible refine Blk.alloc ?_ _ | with_reducible refine Blk.drew ?_ | refine Blk.far ?_ (by simp <;> omega) _))
        have bGv : Blk V1 (w.heap.size + 1) 25 #[.slice Ag n Cg, .slice Bg s Dg] := by rw [hV]; (repeat (first | with_reducible exact Blk.new' _ (by simp) _ _ | with_reducible refine Blk.alloc ?_ _ | with_reducible refine Blk.drew ?_ | refine Blk.far ?_ (by simp <;> omega) _))
        have bOv : Blk V1 (w.heap.size + 1 + 1) 30 #[.int .i64 kd, .int .i64 hh, .int .i64 ii, .int .i64 kk, .int .u64 vv, .int .i64 tt, .int .i64 ll, .int .u64 mm] := by rw [hV]; (repeat (first | with_reducible exact Blk.new' _ (by simp) _ _ | with_reducible refine Blk.alloc ?_ _ | with_reducible refine Blk.drew ?_ | refine Blk.far ?_ (by simp <;> omega) _))
        have Uv : Up w V1 := kv
        have sgv := sg0.up kv
        clear hV kv sg0
        refine (HSH.out V1).mono ?_
        rintro e w1 ⟨rfl, k1⟩
        have bS1 := bSv.up k1
        have bG1 := bGv.up k1
        have bO1 := bOv.up k1
        have U1 := Uv.trans k1
        have sg1 := sgv.up k1
        clear k1 Uv bSv bGv bOv sgv
        have bS1c := bS1.cell
        have bS1f := bS1.frozen
        have bS1l := bS1.lt
        have bG1c := bG1.cell
        have bG1f := bG1.frozen
        have bG1l := bG1.lt
        have bO1c := bO1.cell
        have bO1f := bO1.frozen
        have bO1l := bO1.lt
        go_wp2_with (fail)
        refine calls_at (fun V2 hV => ?_)
        have kv : Up w1 V2 := by rw [hV]; (repeat (first | with_reducible exact Up.refl _ | with_reducible refine Up.alloc ?_ _ | with_reducible refine Up.drew ?_ | refine Up.setCell ?_ (by simp <;> omega) _))
        have bSv := bS1.up kv
        have bGv := bG1.up kv
        have bOv := bO1.up kv
        have Uv : Up w V2 := U1.trans kv
        have sgv := sg1.up kv
        clear hV kv bS1 bS1c bS1f bS1l bG1 bG1c bG1f bG1l bO1 bO1c bO1f bO1l U1 sg1
        refine (HFW.out V2 sgv).mono ?_
        rintro e w2 ⟨rfl, k2⟩
        have bS2 := bSv.up k2
        have bG2 := bGv.up k2
        have bO2 := bOv.up k2
        have U2 := Uv.trans k2
        have sg2 := sgv.up k2
        clear k2 Uv bSv bGv bOv sgv
        have bS2c := bS2.cell
        have bS2f := bS2.frozen
        have bS2l := bS2.lt
        have bG2c := bG2.cell
        have bG2f := bG2.frozen
        have bG2l := bG2.lt
        have bO2c := bO2.cell
        have bO2f := bO2.frozen
        have bO2l := bO2.lt
        go_wp2
        go_ret
        refine ⟨rfl, ?_⟩
        (repeat (first | with_reducible exact U2 | with_reducible refine Up.alloc ?_ _ | with_reducible refine Up.drew ?_ | refine Up.setCell ?_ (by simp <;> omega) _))
  · have hf' : fewB g = false := by simpa using hf
    rw [hf'] at HFW
    have sg0 := hg
    clear hg hf hf' hi
    generalize g.1.length = n at *
    generalize g.2.length = s at *
    go_enter Try.func6, Try.ntmps6
    go_wp2_with (fail)
    refine calls_at (fun V1 hV => ?_)
    have kv : Up w V1 := by rw [hV]; (repeat (first | with_reducible exact Up.refl _ | with_reducible refine Up.alloc ?_ _ | with_reducible refine Up.drew ?_ | refine Up.setCell ?_ (by simp <;> omega) _))
    have bSv : Blk V1 (w.heap.size) 46 #[.slice Ag n Cg, .slice Bg s Dg, .int .i64 th, .int .i64 kd, .int .i64 hh, .int .i64 ii, .int .i64 kk, .int .u64 vv, .int .i64 tt, .int .i64 ll, .int .u64 mm, .int .i64 xx] := by rw [hV]; (repeat (first | with_reducible exact Blk.new' _ (by simp) _ _ | with_reducible refine Blk.alloc ?_ _ | with_reducible refine Blk.drew ?_ | refine Blk.far ?_ (by simp <;> omega) _))
    have bGv : Blk V1 (w.heap.size + 1) 25 #[.slice Ag n Cg, .slice Bg s Dg] := by rw [hV]; (repeat (first | with_reducible exact Blk.new' _ (by simp) _ _ | with_reducible refine Blk.alloc ?_ _ | with_reducible refine Blk.drew ?_ | refine Blk.far ?_ (by simp <;> omega) _))
    have bOv : Blk V1 (w.heap.size + 1 + 1) 30 #[.int .i64 kd, .int .i64 hh, .int .i64 ii, .int .i64 kk, .int .u64 vv, .int .i64 tt, .int .i64 ll, .int .u64 mm] := by rw [hV]; (repeat (first | with_reducible exact Blk.new' _ (by simp) _ _ | with_reducible refine Blk.alloc ?_ _ | with_reducible refine Blk.drew ?_ | refine Blk.far ?_ (by simp <;> omega) _))
    have Uv : Up w V1 := kv
    have sgv := sg0.up kv
    clear hV kv sg0
    refine (HSH.out V1).mono ?_
    rintro e w1 ⟨rfl, k1⟩
    have bS1 := bSv.up k1
    have bG1 := bGv.up k1
    have bO1 := bOv.up k1
    have U1 := Uv.trans k1
    have sg1 := sgv.up k1
    clear k1 Uv bSv bGv bOv sgv
    have bS1c := bS1.cell
    have bS1f := bS1.frozen
    have bS1l := bS1.lt
    have bG1c := bG1.cell
    have bG1f := bG1.frozen
    have bG1l := bG1.lt
    have bO1c := bO1.cell
    have bO1f := bO1.frozen
    have bO1l := bO1.lt
    go_wp2_with (fail)
    refine calls_at (fun V2 hV => ?_)
    have kv : Up w1 V2 := by rw [hV]; (repeat (first | with_reducible exact Up.refl _ | with_reducible refine Up.alloc ?_ _ | with_reducible refine Up.drew ?_ | refine Up.setCell ?_ (by simp <;> omega) _))
    have bSv := bS1.up kv
    have bGv := bG1.up kv
    have bOv := bO1.up kv
    have Uv : Up w V2 := U1.trans kv
    have sgv := sg1.up kv
    clear hV kv bS1 bS1c bS1f bS1l bG1 bG1c bG1f bG1l bO1 bO1c bO1f bO1l U1 sg1
    refine (HFW.out V2 sgv).mono ?_
    rintro e w2 ⟨rfl, k2⟩
    have bS2 := bSv.up k2
    have bG2 := bGv.up k2
    have bO2 := bOv.up k2
    have U2 := Uv.trans k2
    have sg2 := sgv.up k2
    clear k2 Uv bSv bGv bOv sgv
    have bS2c := bS2.cell
    have bS2f := bS2.frozen
    have bS2l := bS2.lt
    have bG2c := bG2.cell
    have bG2f := bG2.frozen
    have bG2l := bG2.lt
    have bO2c := bO2.cell
    have bO2f := bO2.frozen
    have bO2l := bO2.lt
    go_wp2
    go_ret
    refine ⟨rfl, ?_⟩
    (repeat (first | with_reducible exact U2 | with_reducible refine Up.alloc ?_ _ | with_reducible refine Up.drew ?_ | refine Up.setCell ?_ (by simp <;> omega) _))
theorem own : ownKnob Try.prog.godebug = none := by kernel_rfl
set_option maxRecDepth 100000 in
theorem contract (H : Type) (enc : TypeId × Value → H) (W : World) (base : Nat) (args : Array Value) (ds gs : List (DataW H)) (before : List MemPlace)
    (hval0 : ∀ (j : Nat) t v, Try.f6.params[j]? = some t → args[j]? = some v → Value.okWide Try.prog W .any base t v)
    (hW : DataW.Whole enc Try.prog Try.f6.params.toList Rows.graphThreadsSpec.vars false W args.toList ds gs before) (hk : Rows.uptoSmall H (ds ++ gs) = true) :
    Calls Try.prog 6 args W fun e W' => ∃ v, e = .returned v ∧ Rows.graphThreadsSpec.post enc Try.prog Try.f6 false true false false W args v W' := by
  have hval : ∀ (j : Nat) t v, Try.f6.params[j]? = some t → args[j]? = some v → Value.okWide Try.prog W .any base t v := hval0
  have hW' := hW
  obtain ⟨p, q, hA0, hV, rfl, hfz, hnd⟩ := hW
  have hA : DataW.TrodAll enc Try.prog W 0 (fun _ => true) true Try.f6.params.toList args.toList ds p := hA0
  rw [Try.params6] at hA hval
  obtain ⟨v0, vs0, d0, ds0, p0, q0, hargs, rfl, rfl, h0, r0⟩ := trodAll_cons hA
  obtain ⟨rfl, rfl, rfl⟩ := trodAll_nil r0
  obtain rfl : args = #[v0] := by cases args; simp_all
  obtain ⟨rfl, rfl⟩ := trodVars_none hV
  have hbk : Rows.uptoBulkAll [d0] ≤ 1048576 := of_decide_eq_true hk
  simp only [Rows.uptoBulkAll] at hbk
  clear hk
  have h0k := h0
  obtain ⟨Ag, Bg, Cg, Dg, g, th, kd, hh, ii, kk, vv, tt, ll, mm, xx, rfl, hg, hi, oth, o1, o5, o6, oxx⟩ := in_at (hval 0 46 v0 rfl rfl) h0
  clear hA0 hval0
  simp only [List.append_nil, List.nil_append] at hW'
  refine (walk Ag Bg Cg Dg g th kd hh ii kk vv tt ll mm xx (Rows.uptoBulk d0) W hg hi oth o1 o5 o6 oxx (by omega)).mono fun e W' ⟨he, hg⟩ => ?_
  subst he
  exact ⟨_, rfl, post_below (pa := p0) (pv := []) hW' (fun _ _ _ => (trodAll_cons_mk (shut_bool Try.underlying4 _) trodAll_mk0))
    (fun sp hsp => by
      have t := (trodAll_cons_mk (trod_keeps (sp := sp) (by kernel_rfl) (of_decide_eq_true (by kernel_rfl)) h0k hg (fun x hx => hW'.lt x (by simp [hx])) (fun x hx => hsp x (by simp [hx]))) trodAll_mk0)
      simp only [List.append_nil, List.nil_append] at t
      exact t) (fun _ _ => rfl) (by simp)
    hg (ok_one (by kernel_rfl) rfl (okWide_bool_mk Try.underlying4 _))⟩

set_option maxRecDepth 100000 in
theorem lifted (os : Os) (started : os.Started) (H : Type) (enc : TypeId × Value → H) (F : Stop.Interp) :
    ReturnsInHanded {} Try.checked os 6 .any ((Rows.OpenSpec.upto Rows.graphThreadsSpec).pre6 enc Try.prog Try.f6 Rows.graphThreadsUptoRow.domain false) (((Rows.OpenSpec.upto Rows.graphThreadsSpec).at F).post enc Try.prog Try.f6 false true false false) := by
  refine returnsInHanded_of_cond (C := Try.checked) (s := Rows.OpenSpec.upto Rows.graphThreadsSpec) (k := Rows.uptoSmall) rfl own started (by kernel_rfl) Try.func6
    (OpenSpec.witness (enc := enc) (C := Try.checked) (s := Rows.OpenSpec.upto Rows.graphThreadsSpec) (k := Rows.uptoSmall) rfl false ⟨#[], #[.agg #[.slice none 0 0, .slice none 0 0, .int .i64 0, .int .i64 0, .int .i64 0, .int .i64 0, .int .i64 0, .int .u64 0, .int .i64 0, .int .i64 0, .int .u64 0, .int .i64 0]], []⟩ 8 (by kernel_rfl) (by kernel_rfl) (by kernel_rfl)
      (x := ([.agg [.agg [.nil, .nil], .lit (.int .i64 0), .agg [.lit (.int .i64 0), .lit (.int .i64 0), .lit (.int .i64 0), .lit (.int .i64 0), .lit (.int .u64 0), .agg [.lit (.int .i64 0), .lit (.int .i64 0), .lit (.int .u64 0)]], .lit (.int .i64 0)]], [], [])) (by kernel_rfl) rfl (by kernel_rfl)) ?_
  intro W base args ds gs before hval hW _ hk _
  exact contract H enc W base args ds gs before hval hW hk

set_option maxRecDepth 100000 in
theorem over : Rows.graphThreadsUptoRow.holds Try.pinned (Rows.OpenSpec.upto Rows.graphThreadsSpec) :=
  OpenClaim.holds_of_cond 6 Try.f6 rfl rfl rfl rfl rfl rfl rfl ⟨rfl, rfl, rfl, rfl, rfl⟩ rfl rfl rfl rfl rfl (by kernel_rfl) Try.func6 (by kernel_rfl)
    (of_decide_eq_true (by kernel_rfl)) (by unfold Func.isWrapper; first | (rw [if_pos (by decide +kernel)]; kernel_rfl) | (rw [if_neg (by decide +kernel)]; exact ⟨rfl, rfl⟩))
    (fun os started H enc _ F => lifted os started H enc F)

theorem proved : Rows.GraphThreadsUptoSaid :=
  over
#print axioms proved
end Go.Proofs.Ytlocllcijncllaa.LGraphThreads
