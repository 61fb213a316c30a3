/- GraphPops, of all graphs that a machine can hold: it tells true, and changes nothing that it was handed. -/
import Derived.Test.YtlocllcijncllaaPe
namespace Go.Proofs.Ytlocllcijncllaa.LGraphPops
open Go.Joins Go.ChangeShapes Go.WideShapes Go.ChangeAt Go.RowKit Go.Deep Go.Shelf Go.Maps
set_option linter.unusedVariables false
set_option linter.unusedSimpArgs false

set_option maxRecDepth 100000 in
theorem graph_at {H : Type} {enc : TypeId × Value → H} {w : World} {r : Reach} {b0 : Nat} {v : Value} {d : DataW H} {p : List MemPlace} (hv : Value.okWide Try.prog w r b0 25 v) (h : DataW.Trod enc Try.prog w 0 (fun _ => true) true 25 v d p) :
    ∃ g, GrV w v g ∧ GrIn g (Rows.uptoBulk d) := by
  obtain ⟨⟨l⟩, rfl, hsz⟩ := okWide_struct Try.underlying25 hv
  obtain ⟨fuel, hf⟩ := h
  obtain ⟨a, b, g, e, h1, h2⟩ := graph_cells (x := (d, p)) (cs := l) hf
  subst e
  exact ⟨g, h1, h2⟩
set_option maxRecDepth 100000 in
theorem op_at {H : Type} {enc : TypeId × Value → H} {w : World} {r : Reach} {b0 : Nat} {v : Value} {d : DataW H} {p : List MemPlace} (hv : Value.okWide Try.prog w r b0 30 v) (h : DataW.Trod enc Try.prog w 0 (fun _ => true) true 30 v d p) :
    ∃ kd hh i k u t l m : Int, v = .agg #[.int .i64 kd, .int .i64 hh, .int .i64 i, .int .i64 k, .int .u64 u, .int .i64 t, .int .i64 l, .int .u64 m] ∧ I64 kd ∧ I64 hh ∧ I64 i ∧ I64 k ∧ U64 u ∧ U64 m := by
  obtain ⟨⟨l⟩, rfl, hsz⟩ := okWide_struct Try.underlying30 hv
  obtain ⟨fuel, hf⟩ := h
  obtain ⟨a0, a1, a2, a3, a4, a5, a6, a7, e, r⟩ := op_cells (x := (d, p)) (cs := l) hf
  subst e
  exact ⟨a0, a1, a2, a3, a4, a5, a6, a7, rfl, r⟩
set_option maxRecDepth 100000 in
set_option maxHeartbeats 8000000 in
theorem walk (v : Value) (g : Gr) (B : Nat) (th h : Int) (w : World) (hg : GrV w v g) (hi : GrIn g B) (hB : B ≤ 1048576) :
    Calls Try.prog 8 #[v, .int .i64 th, .int .i64 h] w fun e w' => e = .returned (.bool true) ∧ Up w w' := by
  obtain ⟨Ag, cg, Bg, dg, rfl, m1, m2⟩ := hg.form
  have HSH := Lib.hid shown_any
  have HFW := Lib.hid (fun W' (u : GrV W' (.agg #[.slice Ag g.1.length cg, .slice Bg g.2.length dg]) g) => few_any (.agg #[.slice Ag g.1.length cg, .slice Bg g.2.length dg]) g W' u hi.nd)
  by_cases hf : fewB g = true
  · have hF := (few_of hf hi).okk hB
    have hok := hF.ok (by omega)
    have ok1 := (hF.step (by omega) th ⟨9, h, 0, 0, 0, 0, 0, 0⟩ u640 u640).ok (by omega)
    rw [hf] at HFW
    by_cases he : (doG g th ⟨9, h, 0, 0, 0, 0, 0, 0⟩).2.1 = 0
    · obtain ⟨ht, e1, e2, e3⟩ := pops_1 he
      rw [e1] at ok1
      have HSM := Lib.hid (fun W' u (hu : GrV W' u g) (hu2 : GrV W' (.agg #[.slice Ag g.1.length cg, .slice Bg g.2.length dg]) g) => by
        have h := rsame_any u (.agg #[.slice Ag g.1.length cg, .slice Bg g.2.length dg]) g g W' hu hu2
        rw [decide_eq_true rfl] at h
        exact h)
      have hs1 : (pushG g th (gtv (rowOf g th) h)).2.length = g.2.length := by simp [pushG]
      have D1 := Lib.hid (do_at (n := g.1.length) (s := g.2.length) hok (i64k 9 (by omega)) u640 u640 e1 rfl hs1)
      have D2 := Lib.hid (do_at (n := g.1.length) (s := g.2.length) ok1 (i64k 8 (by omega)) u640 u640 e2 rfl hs1)
      have D3 := Lib.hid (do_at (n := g.1.length) (s := g.2.length) ok1 (i64k 10 (by omega)) u640 u640 e3 rfl rfl)
      clear e1 e2 e3 he ok1 hs1
      obtain ⟨th, rfl⟩ : ∃ j : Nat, th = j := ⟨th.toNat, by have := ht.1; omega⟩
      have htl : th < g.2.length := by have := ht.2; omega
      obtain ⟨pr, PR, qr, rfl, hc0, hl0, hsl⟩ := hg.row_at htl
      have hrx := hsl.max
      unfold maxLen at hrx
      generalize (rowOf g th).length = m at *
      have d1 : decide ((th : Int) < 0) = false := decide_eq_false (by omega)
      have d2 : decide ((th : Int) ≥ (g.2.length : Int)) = false := decide_eq_false (by omega)
      have HHC := Lib.hid (fun W' (k : Up w W') => (Up.cell k hc0 : W'.cell? (pr.add th) = _))
      have HHL := Lib.hid (fun W' (k : Up w W') => (k.lt hl0 : pr.block < W'.heap.size))
      have sg0 := hg
      clear hg hf hok hi hF ht hsl hc0 hl0
      generalize g.1.length = n at *
      generalize g.2.length = s at *
      go_enter Try.func8, Try.ntmps8
      go_wp2_with (fail)
      refine calls_at (fun V1 hV => ?_)
      have kv : Up w V1 := by rw [hV]; (repeat (first | with_reducible exact Up.refl _ | with_reducible refine Up.alloc ?_ _ | with_reducible refine Up.drew ?_ | refine Up.setCell ?_ (by simp <;> omega) _))
      have bGv : Blk V1 (w.heap.size) 25 #[.slice Ag n cg, .slice (some pr) s dg] := by rw [hV]; (repeat (first | with_reducible exact Blk.new' _ (by simp) _ _ | with_reducible refine Blk.alloc ?_ _ | with_reducible refine Blk.drew ?_ | refine Blk.far ?_ (by simp <;> omega) _))
      have Uv : Up w V1 := kv
      have sgv := sg0.up kv
      clear hV kv sg0
      refine (HSH.out V1).mono ?_
      rintro e w1 ⟨rfl, k1⟩
      have bG1 := bGv.up k1
      have U1 := Uv.trans k1
      have sg1 := sgv.up k1
      clear k1 Uv bGv sgv
      have bG1c := bG1.cell
      have bG1f := bG1.frozen
      have bG1l := bG1.lt
      go_wp2_with (fail)
      refine calls_at (fun V2 hV => ?_)
      have kv : Up w1 V2 := by rw [hV]; (repeat (first | with_reducible exact Up.refl _ | with_reducible refine Up.alloc ?_ _ | with_reducible refine Up.drew ?_ | refine Up.setCell ?_ (by simp <;> omega) _))
      have bGv := bG1.up kv
      have Uv : Up w V2 := U1.trans kv
      have sgv := sg1.up kv
      clear hV kv bG1 bG1c bG1f bG1l U1 sg1
      refine (HFW.out V2 sgv).mono ?_
      rintro e w2 ⟨rfl, k2⟩
      have bG2 := bGv.up k2
      have U2 := Uv.trans k2
      have sg2 := sgv.up k2
      clear k2 Uv bGv sgv
      have bG2c := bG2.cell
      have bG2f := bG2.frozen
      have bG2l := bG2.lt
      go_wp2_with (fail)
      refine calls_at (fun V3 hV => ?_)
      have kv : Up w2 V3 := by rw [hV]; (repeat (first | with_reducible exact Up.refl _ | with_reducible refine Up.alloc ?_ _ | with_reducible refine Up.drew ?_ | refine Up.setCell ?_ (by simp <;> omega) _))
      have bGv := bG2.up kv
      have Uv : Up w V3 := U2.trans kv
      have sgv := sg2.up kv
      clear hV kv bG2 bG2c bG2f bG2l U2 sg2
      refine (D1.out V3 _ sgv).mono ?_
      rintro e w3 ⟨AP, cP, BP, dP, rfl, sP3, k3⟩
      have bG3 := bGv.up k3
      have U3 := Uv.trans k3
      have sg3 := sgv.up k3
      clear k3 Uv bGv sgv
      have bG3c := bG3.cell
      have bG3f := bG3.frozen
      have bG3l := bG3.lt
      have hcr := fun o1 o2 => HHC.out _ ((U3.alloc o1).alloc o2)
      have hlr := HHL.out _ U3
      go_wp2_with (fail)
      refine calls_at (fun V4 hV => ?_)
      have kv : Up w3 V4 := by rw [hV]; (repeat (first | with_reducible exact Up.refl _ | with_reducible refine Up.alloc ?_ _ | with_reducible refine Up.drew ?_ | refine Up.setCell ?_ (by simp <;> omega) _))
      have bGv := bG3.up kv
      have bPv : Blk V4 (w3.heap.size) 25 #[.slice AP n cP, .slice BP s dP] := by rw [hV]; (repeat (first | with_reducible exact Blk.new' _ (by simp) _ _ | with_reducible refine Blk.alloc ?_ _ | with_reducible refine Blk.drew ?_ | refine Blk.far ?_ (by simp <;> omega) _))
      have bXv : Blk V4 (w3.heap.size + 1) 39 #[.int .i64 0, .int .u64 0, .bool false] := by rw [hV]; (repeat (first | with_reducible exact Blk.new' _ (by simp) _ _ | with_reducible refine Blk.alloc ?_ _ | with_reducible refine Blk.drew ?_ | refine Blk.far ?_ (by simp <;> omega) _))
      have Uv : Up w V4 := U3.trans kv
      have sgv := sg3.up kv
      have sPv := sP3.up kv
      clear hV kv bG3 bG3c bG3f bG3l U3 sg3 sP3
      refine (D2.out V4 _ sPv).mono ?_
      rintro e w4 ⟨AQ, cQ, BQ, dQ, rfl, sQ4, k4⟩
      have bG4 := bGv.up k4
      have bP4 := bPv.up k4
      have bX4 := bXv.up k4
      have U4 := Uv.trans k4
      have sg4 := sgv.up k4
      have sP4 := sPv.up k4
      clear k4 Uv bGv bPv bXv sgv sPv
      have bG4c := bG4.cell
      have bG4f := bG4.frozen
      have bG4l := bG4.lt
      have bP4c := bP4.cell
      have bP4f := bP4.frozen
      have bP4l := bP4.lt
      have bX4c := bX4.cell
      have bX4f := bX4.frozen
      have bX4l := bX4.lt
      go_wp2_with (fail)
      refine calls_at (fun V5 hV => ?_)
      have kv : Up w4 V5 := by rw [hV]; (repeat (first | with_reducible exact Up.refl _ | with_reducible refine Up.alloc ?_ _ | with_reducible refine Up.drew ?_ | refine Up.setCell ?_ (by simp <;> omega) _))
      have bGv := bG4.up kv
      have bPv := bP4.up kv
      have bXv := bX4.up kv
      have bQv : Blk V5 (w4.heap.size) 25 #[.slice AQ n cQ, .slice BQ s dQ] := by rw [hV]; (repeat (first | with_reducible exact Blk.new' _ (by simp) _ _ | with_reducible refine Blk.alloc ?_ _ | with_reducible refine Blk.drew ?_ | refine Blk.far ?_ (by simp <;> omega) _))
      have bYv : Blk V5 (w4.heap.size + 1) 39 #[.int .i64 0, .int .u64 0, .bool true] := by rw [hV]; (repeat (first | with_reducible exact Blk.new' _ (by simp) _ _ | with_reducible refine Blk.alloc ?_ _ | with_reducible refine Blk.drew ?_ | refine Blk.far ?_ (by simp <;> omega) _))
      have Uv : Up w V5 := U4.trans kv
      have sgv := sg4.up kv
      have sPv := sP4.up kv
      have sQv := sQ4.up kv
      clear hV kv bG4 bG4c bG4f bG4l bP4 bP4c bP4f bP4l bX4 bX4c bX4f bX4l U4 sg4 sP4 sQ4
      refine (D3.out V5 _ sPv).mono ?_
      rintro e w5 ⟨AZ, cZ, BZ, dZ, rfl, sZ5, k5⟩
      have bG5 := bGv.up k5
      have bP5 := bPv.up k5
      have bX5 := bXv.up k5
      have bQ5 := bQv.up k5
      have bY5 := bYv.up k5
      have U5 := Uv.trans k5
      have sg5 := sgv.up k5
      have sP5 := sPv.up k5
      have sQ5 := sQv.up k5
      clear k5 Uv bGv bPv bXv bQv bYv sgv sPv sQv
      have bG5c := bG5.cell
      have bG5f := bG5.frozen
      have bG5l := bG5.lt
      have bP5c := bP5.cell
      have bP5f := bP5.frozen
      have bP5l := bP5.lt
      have bX5c := bX5.cell
      have bX5f := bX5.frozen
      have bX5l := bX5.lt
      have bQ5c := bQ5.cell
      have bQ5f := bQ5.frozen
      have bQ5l := bQ5.lt
      have bY5c := bY5.cell
      have bY5f := bY5.frozen
      have bY5l := bY5.lt
      go_wp2_with (fail)
      refine calls_at (fun V6 hV => ?_)
      have kv : Up w5 V6 := by rw [hV]; (repeat (first | with_reducible exact Up.refl _ | with_reducible refine Up.alloc ?_ _ | with_reducible refine Up.drew ?_ | refine Up.setCell ?_ (by simp <;> omega) _))
      have bGv := bG5.up kv
      have bPv := bP5.up kv
      have bXv := bX5.up kv
      have bQv := bQ5.up kv
      have bYv := bY5.up kv
      have bZv : Blk V6 (w5.heap.size) 25 #[.slice AZ n cZ, .slice BZ s dZ] := by rw [hV]; (repeat (first | with_reducible exact Blk.new' _ (by simp) _ _ | with_reducible refine Blk.alloc ?_ _ | with_reducible refine Blk.drew ?_ | refine Blk.far ?_ (by simp <;> omega) _))
      have bWv : Blk V6 (w5.heap.size + 1) 39 #[.int .i64 0, .int .u64 0, .bool false] := by rw [hV]; (repeat (first | with_reducible exact Blk.new' _ (by simp) _ _ | with_reducible refine Blk.alloc ?_ _ | with_reducible refine Blk.drew ?_ | refine Blk.far ?_ (by simp <;> omega) _))
      have Uv : Up w V6 := U5.trans kv
      have sgv := sg5.up kv
      have sPv := sP5.up kv
      have sQv := sQ5.up kv
      have sZv := sZ5.up kv
      clear hV kv bG5 bG5c bG5f bG5l bP5 bP5c bP5f bP5l bX5 bX5c bX5f bX5l bQ5 bQ5c bQ5f bQ5l bY5 bY5c bY5f bY5l U5 sg5 sP5 sQ5 sZ5
      refine (HSM.out V6 _ sZv sgv).mono ?_
      rintro e w6 ⟨rfl, k6⟩
      have bG6 := bGv.up k6
      have bP6 := bPv.up k6
      have bX6 := bXv.up k6
      have bQ6 := bQv.up k6
      have bY6 := bYv.up k6
      have bZ6 := bZv.up k6
      have bW6 := bWv.up k6
      have U6 := Uv.trans k6
      have sg6 := sgv.up k6
      have sP6 := sPv.up k6
      have sQ6 := sQv.up k6
      have sZ6 := sZv.up k6
      clear k6 Uv bGv bPv bXv bQv bYv bZv bWv sgv sPv sQv sZv
      have bG6c := bG6.cell
      have bG6f := bG6.frozen
      have bG6l := bG6.lt
      have bP6c := bP6.cell
      have bP6f := bP6.frozen
      have bP6l := bP6.lt
      have bX6c := bX6.cell
      have bX6f := bX6.frozen
      have bX6l := bX6.lt
      have bQ6c := bQ6.cell
      have bQ6f := bQ6.frozen
      have bQ6l := bQ6.lt
      have bY6c := bY6.cell
      have bY6f := bY6.frozen
      have bY6l := bY6.lt
      have bZ6c := bZ6.cell
      have bZ6f := bZ6.frozen
      have bZ6l := bZ6.lt
      have bW6c := bW6.cell
      have bW6f := bW6.frozen
      have bW6l := bW6.lt
      go_wp2
      go_ret
      refine ⟨rfl, ?_⟩
      (repeat (first | with_reducible exact U6 | with_reducible refine Up.alloc ?_ _ | with_reducible refine Up.drew ?_ | refine Up.setCell ?_ (by simp <;> omega) _))
    · have e1 := do_err he
      have HSM := Lib.hid (fun W' u (hu : GrV W' u g) (hu2 : GrV W' (.agg #[.slice Ag g.1.length cg, .slice Bg g.2.length dg]) g) => by
        have h := rsame_any u (.agg #[.slice Ag g.1.length cg, .slice Bg g.2.length dg]) g g W' hu hu2
        rw [decide_eq_true rfl] at h
        exact h)
      generalize (doG g th ⟨9, h, 0, 0, 0, 0, 0, 0⟩).2.1 = e at *
      have D1 := Lib.hid (do_at (n := g.1.length) (s := g.2.length) hok (i64k 9 (by omega)) u640 u640 e1 rfl rfl)
      have hb : (e != 0) = true := bne_iff_ne.2 he
      have sg0 := hg
      clear hg hf hok hi hF e1 ok1 he
      generalize g.1.length = n at *
      generalize g.2.length = s at *
      go_enter Try.func8, Try.ntmps8
      go_wp2_with (fail)
      refine calls_at (fun V1 hV => ?_)
      have kv : Up w V1 := by rw [hV]; (repeat (first | with_reducible exact Up.refl _ | with_reducible refine Up.alloc ?_ _ | with_reducible refine Up.drew ?_ | refine Up.setCell ?_ (by simp <;> omega) _))
      have bGv : Blk V1 (w.heap.size) 25 #[.slice Ag n cg, .slice Bg s dg] := by rw [hV]; (repeat (first | with_reducible exact Blk.new' _ (by simp) _ _ | with_reducible refine Blk.alloc ?_ _ | with_reducible refine Blk.drew ?_ | refine Blk.far ?_ (by simp <;> omega) _))
      have Uv : Up w V1 := kv
      have sgv := sg0.up kv
      clear hV kv sg0
      refine (HSH.out V1).mono ?_
      rintro e w1 ⟨rfl, k1⟩
      have bG1 := bGv.up k1
      have U1 := Uv.trans k1
      have sg1 := sgv.up k1
      clear k1 Uv bGv sgv
      have bG1c := bG1.cell
      have bG1f := bG1.frozen
      have bG1l := bG1.lt
      go_wp2_with (fail)
      refine calls_at (fun V2 hV => ?_)
      have kv : Up w1 V2 := by rw [hV]; (repeat (first | with_reducible exact Up.refl _ | with_reducible refine Up.alloc ?_ _ | with_reducible refine Up.drew ?_ | refine Up.setCell ?_ (by simp <;> omega) _))
      have bGv := bG1.up kv
      have Uv : Up w V2 := U1.trans kv
      have sgv := sg1.up kv
      clear hV kv bG1 bG1c bG1f bG1l U1 sg1
      refine (HFW.out V2 sgv).mono ?_
      rintro e w2 ⟨rfl, k2⟩
      have bG2 := bGv.up k2
      have U2 := Uv.trans k2
      have sg2 := sgv.up k2
      clear k2 Uv bGv sgv
      have bG2c := bG2.cell
      have bG2f := bG2.frozen
      have bG2l := bG2.lt
      go_wp2_with (fail)
      refine calls_at (fun V3 hV => ?_)
      have kv : Up w2 V3 := by rw [hV]; (repeat (first | with_reducible exact Up.refl _ | with_reducible refine Up.alloc ?_ _ | with_reducible refine Up.drew ?_ | refine Up.setCell ?_ (by simp <;> omega) _))
      have bGv := bG2.up kv
      have Uv : Up w V3 := U2.trans kv
      have sgv := sg2.up kv
      clear hV kv bG2 bG2c bG2f bG2l U2 sg2
      refine (D1.out V3 _ sgv).mono ?_
      rintro e w3 ⟨AP, cP, BP, dP, rfl, sP3, k3⟩
      have bG3 := bGv.up k3
      have U3 := Uv.trans k3
      have sg3 := sgv.up k3
      clear k3 Uv bGv sgv
      have bG3c := bG3.cell
      have bG3f := bG3.frozen
      have bG3l := bG3.lt
      go_wp2_with (fail)
      refine calls_at (fun V4 hV => ?_)
      have kv : Up w3 V4 := by rw [hV]; (repeat (first | with_reducible exact Up.refl _ | with_reducible refine Up.alloc ?_ _ | with_reducible refine Up.drew ?_ | refine Up.setCell ?_ (by simp <;> omega) _))
      have bGv := bG3.up kv
      have bPv : Blk V4 (w3.heap.size) 25 #[.slice AP n cP, .slice BP s dP] := by rw [hV]; (repeat (first | with_reducible exact Blk.new' _ (by simp) _ _ | with_reducible refine Blk.alloc ?_ _ | with_reducible refine Blk.drew ?_ | refine Blk.far ?_ (by simp <;> omega) _))
      have bXv : Blk V4 (w3.heap.size + 1) 39 #[.int .i64 e, .int .u64 0, .bool false] := by rw [hV]; (repeat (first | with_reducible exact Blk.new' _ (by simp) _ _ | with_reducible refine Blk.alloc ?_ _ | with_reducible refine Blk.drew ?_ | refine Blk.far ?_ (by simp <;> omega) _))
      have Uv : Up w V4 := U3.trans kv
      have sgv := sg3.up kv
      have sPv := sP3.up kv
      clear hV kv bG3 bG3c bG3f bG3l U3 sg3 sP3
      refine (HSM.out V4 _ sPv sgv).mono ?_
      rintro e w4 ⟨rfl, k4⟩
      have bG4 := bGv.up k4
      have bP4 := bPv.up k4
      have bX4 := bXv.up k4
      have U4 := Uv.trans k4
      have sg4 := sgv.up k4
      have sP4 := sPv.up k4
      clear k4 Uv bGv bPv bXv sgv sPv
      have bG4c := bG4.cell
      have bG4f := bG4.frozen
      have bG4l := bG4.lt
      have bP4c := bP4.cell
      have bP4f := bP4.frozen
      have bP4l := bP4.lt
      have bX4c := bX4.cell
      have bX4f := bX4.frozen
      have bX4l := bX4.lt
      go_wp2
      go_ret
      refine ⟨rfl, ?_⟩
      (repeat (first | with_reducible exact U4 | with_reducible refine Up.alloc ?_ _ | with_reducible refine Up.drew ?_ | refine Up.setCell ?_ (by simp <;> omega) _))
  · have hf' : fewB g = false := by simpa using hf
    rw [hf'] at HFW
    have sg0 := hg
    clear hg hf hf' hi
    generalize g.1.length = n at *
    generalize g.2.length = s at *
    go_enter Try.func8, Try.ntmps8
    go_wp2_with (fail)
    refine calls_at (fun V1 hV => ?_)
    have kv : Up w V1 := by rw [hV]; (repeat (first | with_reducible exact Up.refl _ | with_reducible refine Up.alloc ?_ _ | with_reducible refine Up.drew ?_ | refine Up.setCell ?_ (by simp <;> omega) _))
    have bGv : Blk V1 (w.heap.size) 25 #[.slice Ag n cg, .slice Bg s dg] := by rw [hV]; (repeat (first | with_reducible exact Blk.new' _ (by simp) _ _ | with_reducible refine Blk.alloc ?_ _ | with_reducible refine Blk.drew ?_ | refine Blk.far ?_ (by simp <;> omega) _))
    have Uv : Up w V1 := kv
    have sgv := sg0.up kv
    clear hV kv sg0
    refine (HSH.out V1).mono ?_
    rintro e w1 ⟨rfl, k1⟩
    have bG1 := bGv.up k1
    have U1 := Uv.trans k1
    have sg1 := sgv.up k1
    clear k1 Uv bGv sgv
    have bG1c := bG1.cell
    have bG1f := bG1.frozen
    have bG1l := bG1.lt
    go_wp2_with (fail)
    refine calls_at (fun V2 hV => ?_)
    have kv : Up w1 V2 := by rw [hV]; (repeat (first | with_reducible exact Up.refl _ | with_reducible refine Up.alloc ?_ _ | with_reducible refine Up.drew ?_ | refine Up.setCell ?_ (by simp <;> omega) _))
    have bGv := bG1.up kv
    have Uv : Up w V2 := U1.trans kv
    have sgv := sg1.up kv
    clear hV kv bG1 bG1c bG1f bG1l U1 sg1
    refine (HFW.out V2 sgv).mono ?_
    rintro e w2 ⟨rfl, k2⟩
    have bG2 := bGv.up k2
    have U2 := Uv.trans k2
    have sg2 := sgv.up k2
    clear k2 Uv bGv sgv
    have bG2c := bG2.cell
    have bG2f := bG2.frozen
    have bG2l := bG2.lt
    go_wp2
    go_ret
    refine ⟨rfl, ?_⟩
    (repeat (first | with_reducible exact U2 | with_reducible refine Up.alloc ?_ _ | with_reducible refine Up.drew ?_ | refine Up.setCell ?_ (by simp <;> omega) _))
theorem own : ownKnob Try.prog.godebug = none := by kernel_rfl
set_option maxRecDepth 100000 in
theorem contract (H : Type) (enc : TypeId × Value → H) (W : World) (base : Nat) (args : Array Value) (ds gs : List (DataW H)) (before : List MemPlace)
    (hval0 : ∀ (j : Nat) t v, Try.f8.params[j]? = some t → args[j]? = some v → Value.okWide Try.prog W .any base t v)
    (hW : DataW.Whole enc Try.prog Try.f8.params.toList Rows.graphPopsSpec.vars false W args.toList ds gs before) (hk : Rows.uptoSmall H (ds ++ gs) = true) :
    Calls Try.prog 8 args W fun e W' => ∃ v, e = .returned v ∧ Rows.graphPopsSpec.post enc Try.prog Try.f8 false true false false W args v W' := by
  have hval : ∀ (j : Nat) t v, Try.f8.params[j]? = some t → args[j]? = some v → Value.okWide Try.prog W .any base t v := hval0
  have hW' := hW
  obtain ⟨p, q, hA0, hV, rfl, hfz, hnd⟩ := hW
  have hA : DataW.TrodAll enc Try.prog W 0 (fun _ => true) true Try.f8.params.toList args.toList ds p := hA0
  rw [Try.params8] at hA hval
  obtain ⟨v0, vs0, d0, ds0, p0, q0, hargs, rfl, rfl, h0, r0⟩ := trodAll_cons hA
  obtain ⟨v1, vs1, d1, ds1, p1, q1, rfl, rfl, rfl, h1, r1⟩ := trodAll_cons r0
  obtain ⟨v2, vs2, d2, ds2, p2, q2, rfl, rfl, rfl, h2, r2⟩ := trodAll_cons r1
  obtain ⟨rfl, rfl, rfl⟩ := trodAll_nil r2
  obtain rfl : args = #[v0, v1, v2] := by cases args; simp_all
  obtain ⟨rfl, rfl⟩ := trodVars_none hV
  have hbk : Rows.uptoBulkAll [d0, d1, d2] ≤ 1048576 := of_decide_eq_true hk
  simp only [Rows.uptoBulkAll] at hbk
  clear hk
  have h0k := h0
  obtain ⟨g0, hg0, hi0⟩ := graph_at (hval 0 25 v0 rfl rfl) h0
  obtain ⟨a1, rfl, rfl, rfl, w1⟩ := open_int Try.underlying3 (hval 1 3 v1 rfl rfl) h1
  obtain ⟨a2, rfl, rfl, rfl, w2⟩ := open_int Try.underlying3 (hval 2 3 v2 rfl rfl) h2
  clear hA0 hval0
  simp only [List.append_nil, List.nil_append] at hW'
  refine (walk v0 g0 (Rows.uptoBulk d0) a1 a2 W hg0 hi0 (by omega)).mono fun e W' ⟨he, hg⟩ => ?_
  subst he
  exact ⟨_, rfl, post_below (pa := p0) (pv := []) hW' (fun _ _ _ => (trodAll_cons_mk (shut_bool Try.underlying4 _) trodAll_mk0))
    (fun sp hsp => by
      have t := (trodAll_cons_mk (trod_keeps (sp := sp) (by kernel_rfl) (of_decide_eq_true (by kernel_rfl)) h0k hg (fun x hx => hW'.lt x (by simp [hx])) (fun x hx => hsp x (by simp [hx]))) (trodAll_cons_mk (shut_int Try.underlying3 w1) (trodAll_cons_mk (shut_int Try.underlying3 w2) trodAll_mk0)))
      simp only [List.append_nil, List.nil_append] at t
      exact t) (fun _ _ => rfl) (by simp)
    hg (ok_one (by kernel_rfl) rfl (okWide_bool_mk Try.underlying4 _))⟩

set_option maxRecDepth 100000 in
theorem lifted (os : Os) (started : os.Started) (H : Type) (enc : TypeId × Value → H) (F : Stop.Interp) :
    ReturnsInHanded {} Try.checked os 8 .any ((Rows.OpenSpec.upto Rows.graphPopsSpec).pre6 enc Try.prog Try.f8 Rows.graphPopsUptoRow.domain false) (((Rows.OpenSpec.upto Rows.graphPopsSpec).at F).post enc Try.prog Try.f8 false true false false) := by
  refine returnsInHanded_of_cond (C := Try.checked) (s := Rows.OpenSpec.upto Rows.graphPopsSpec) (k := Rows.uptoSmall) rfl own started (by kernel_rfl) Try.func8
    (OpenSpec.witness (enc := enc) (C := Try.checked) (s := Rows.OpenSpec.upto Rows.graphPopsSpec) (k := Rows.uptoSmall) rfl false ⟨#[], #[.agg #[.slice none 0 0, .slice none 0 0], .int .i64 0, .int .i64 0], []⟩ 8 (by kernel_rfl) (by kernel_rfl) (by kernel_rfl)
      (x := ([.agg [.nil, .nil], .lit (.int .i64 0), .lit (.int .i64 0)], [], [])) (by kernel_rfl) rfl (by kernel_rfl)) ?_
  intro W base args ds gs before hval hW _ hk _
  exact contract H enc W base args ds gs before hval hW hk

set_option maxRecDepth 100000 in
theorem over : Rows.graphPopsUptoRow.holds Try.pinned (Rows.OpenSpec.upto Rows.graphPopsSpec) :=
  OpenClaim.holds_of_cond 8 Try.f8 rfl rfl rfl rfl rfl rfl rfl ⟨rfl, rfl, rfl, rfl, rfl⟩ rfl rfl rfl rfl rfl (by kernel_rfl) Try.func8 (by kernel_rfl)
    (of_decide_eq_true (by kernel_rfl)) (by unfold Func.isWrapper; first | (rw [if_pos (by decide +kernel)]; kernel_rfl) | (rw [if_neg (by decide +kernel)]; exact ⟨rfl, rfl⟩))
    (fun os started H enc _ F => lifted os started H enc F)

theorem proved : Rows.GraphPopsUptoSaid :=
  over
#print axioms proved
end Go.Proofs.Ytlocllcijncllaa.LGraphPops
