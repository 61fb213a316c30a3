/- GraphStays, of all graphs that a machine can hold: it tells true, and changes nothing that it was handed. -/
import Derived.Test.YtlocllcijncllaaSh
namespace Go.Proofs.Ytlocllcijncllaa.LGraphStays
open Go.Joins Go.ChangeShapes Go.WideShapes Go.ChangeAt Go.RowKit Go.Deep Go.Shelf Go.Maps
set_option linter.unusedVariables false
set_option linter.unusedSimpArgs false

set_option maxRecDepth 100000 in
theorem graph_at {H : Type} {enc : TypeId × Value → H} {w : World} {r : Reach} {b0 : Nat} {v : Value} {d : DataW H} {p : List MemPlace} (hv : Value.okWide Try.prog w r b0 25 v) (h : DataW.Trod enc Try.prog w 0 (fun _ => true) true 25 v d p) :
    ∃ g, GrV w v g ∧ GrIn g (Rows.uptoBulk d) := by
  obtain ⟨⟨l⟩, rfl, hsz⟩ := okWide_struct Try.underlying25 hv
  obtain ⟨fuel, hf⟩ := h
  obtain ⟨a, b, g, e, h1, h2⟩ := graph_cells (x := (d, p)) (cs := l) hf
  subst e
  exact ⟨g, h1, h2⟩
set_option maxRecDepth 100000 in
theorem op_at {H : Type} {enc : TypeId × Value → H} {w : World} {r : Reach} {b0 : Nat} {v : Value} {d : DataW H} {p : List MemPlace} (hv : Value.okWide Try.prog w r b0 30 v) (h : DataW.Trod enc Try.prog w 0 (fun _ => true) true 30 v d p) :
    ∃ kd hh i k u t l m : Int, v = .agg #[.int .i64 kd, .int .i64 hh, .int .i64 i, .int .i64 k, .int .u64 u, .int .i64 t, .int .i64 l, .int .u64 m] ∧ I64 kd ∧ I64 hh ∧ I64 i ∧ I64 k ∧ U64 u ∧ U64 m := by
  obtain ⟨⟨l⟩, rfl, hsz⟩ := okWide_struct Try.underlying30 hv
  obtain ⟨fuel, hf⟩ := h
  obtain ⟨a0, a1, a2, a3, a4, a5, a6, a7, e, r⟩ := op_cells (x := (d, p)) (cs := l) hf
  subst e
  exact ⟨a0, a1, a2, a3, a4, a5, a6, a7, rfl, r⟩
set_option maxRecDepth 100000 in
set_option maxHeartbeats 8000000 in
theorem walk (v : Value) (g : Gr) (B : Nat) (th kd hh ii kk vv tt ll mm : Int) (w : World) (hg : GrV w v g) (hi : GrIn g B) (hB : B ≤ 1048576) (o1 : I64 kd) (o5 : U64 vv) (o6 : U64 mm) :
    Calls Try.prog 4 #[v, .int .i64 th, .agg #[.int .i64 kd, .int .i64 hh, .int .i64 ii, .int .i64 kk, .int .u64 vv, .int .i64 tt, .int .i64 ll, .int .u64 mm]] w fun e w' => e = .returned (.bool true) ∧ Up w w' := by
  obtain ⟨Ag, cg, Bg, dg, rfl, m1, m2⟩ := hg.form
  have HSH := Lib.hid shown_any
  have HFW := Lib.hid (fun W' (u : GrV W' (.agg #[.slice Ag g.1.length cg, .slice Bg g.2.length dg]) g) => few_any (.agg #[.slice Ag g.1.length cg, .slice Bg g.2.length dg]) g W' u hi.nd)
  by_cases hf : fewB g = true
  · have hok := (few_of hf hi).ok hB
    obtain ⟨kn, ks, n1, s1, e, x, y, hd, hn1, hs1, D1⟩ := do_let g th kd hh ii kk vv tt ll mm hok o1 o5 o6
    have D1 := Lib.hid D1
    have HRG : Hid (Rg (kn, ks)) := Lib.hid (by
      have h := do_rg (th := th) (o := ⟨kd, hh, ii, kk, vv, tt, ll, mm⟩) hok.rg (by have := hok.n; omega) o5 o6
      rw [hd] at h
      exact h)
    have HRT := Lib.hid (fun W' u (hu : GrV W' u (kn, ks)) => by
      have h := rright15_any u (kn, ks) W' hu HRG.out.mp
      rw [rgB_of HRG.out] at h
      exact h)
    have hlen := do_len (g := g) (th := th) (o := ⟨kd, hh, ii, kk, vv, tt, ll, mm⟩)
    have hnil := do_no (g := g) (th := th) (o := ⟨kd, hh, ii, kk, vv, tt, ll, mm⟩)
    rw [hd] at hlen hnil
    simp only [] at hlen hnil
    rw [hf] at HFW
    have hn60 := hok.n
    have sg0 := hg
    clear hg hf hok hd hi HRG
    generalize g.1.length = n at *
    generalize g.2.length = s at *
    rw [hn1, hs1] at hlen
    obtain ⟨e1, e2, e3⟩ := hlen
    by_cases he : e = 0
    · subst he
      subst e1
      have d1 : decide ((n1 : Int) ≥ (n : Int)) = true := decide_eq_true (by omega)
      have d2 : decide ((n1 : Int) ≤ (n : Int) + 1) = true := decide_eq_true (by omega)
      have m3 : n1 ≤ 101 := by omega
      have d3 : decide ((n : Int) ≤ (n1 : Int)) = true := decide_eq_true (by omega)
      clear hn1 hs1 hnil
      go_enter Try.func4, Try.ntmps4
      go_wp2_with (fail)
      refine calls_at (fun V1 hV => ?_)
      have kv : Up w V1 := by rw [hV]; (repeat (first | with_reducible exact Up.refl _ | with_reducible refine Up.alloc ?_ _ | with_reducible refine Up.drew ?_ | refine Up.setCell ?_ (by simp <;> omega) _))
      have bGv : Blk V1 (w.heap.size) 25 #[.slice Ag n cg, .slice Bg s1 dg] := by rw [hV]; (repeat (first | with_reducible exact Blk.new' _ (by simp) _ _ | with_reducible refine Blk.alloc ?_ _ | with_reducible refine Blk.drew ?_ | refine Blk.far ?_ (by simp <;> omega) _))
      have bOv : Blk V1 (w.heap.size + 1) 30 #[.int .i64 kd, .int .i64 hh, .int .i64 ii, .int .i64 kk, .int .u64 vv, .int .i64 tt, .int .i64 ll, .int .u64 mm] := by rw [hV]; (repeat (first | with_reducible exact Blk.new' _ (by simp) _ _ | with_reducible refine Blk.alloc ?_ _ | with_reducible refine Blk.drew ?_ | refine Blk.far ?_ (by simp <;> omega) _))
      have Uv : Up w V1 := kv
      have sgv := sg0.up kv
      clear hV kv sg0
      refine (HSH.out V1).mono ?_
      rintro e w1 ⟨rfl, k1⟩
      have bG1 := bGv.up k1
      have bO1 := bOv.up k1
      have U1 := Uv.trans k1
      have sg1 := sgv.up k1
      clear k1 Uv bGv bOv sgv
      have bG1c := bG1.cell
      have bG1f := bG1.frozen
      have bG1l := bG1.lt
      have bO1c := bO1.cell
      have bO1f := bO1.frozen
      have bO1l := bO1.lt
      go_wp2_with (fail)
      refine calls_at (fun V2 hV => ?_)
      have kv : Up w1 V2 := by rw [hV]; (repeat (first | with_reducible exact Up.refl _ | with_reducible refine Up.alloc ?_ _ | with_reducible refine Up.drew ?_ | refine Up.setCell ?_ (by simp <;> omega) _))
      have bGv := bG1.up kv
      have bOv := bO1.up kv
      have Uv : Up w V2 := U1.trans kv
      have sgv := sg1.up kv
      clear hV kv bG1 bG1c bG1f bG1l bO1 bO1c bO1f bO1l U1 sg1
      refine (HFW.out V2 sgv).mono ?_
      rintro e w2 ⟨rfl, k2⟩
      have bG2 := bGv.up k2
      have bO2 := bOv.up k2
      have U2 := Uv.trans k2
      have sg2 := sgv.up k2
      clear k2 Uv bGv bOv sgv
      have bG2c := bG2.cell
      have bG2f := bG2.frozen
      have bG2l := bG2.lt
      have bO2c := bO2.cell
      have bO2f := bO2.frozen
      have bO2l := bO2.lt
      go_wp2_with (fail)
      refine calls_at (fun V3 hV => ?_)
      have kv : Up w2 V3 := by rw [hV]; (repeat (first | with_reducible exact Up.refl _ | with_reducible refine Up.alloc ?_ _ | with_reducible refine Up.drew ?_ | refine Up.setCell ?_ (by simp <;> omega) _))
      have bGv := bG2.up kv
      have bOv := bO2.up kv
      have Uv : Up w V3 := U2.trans kv
      have sgv := sg2.up kv
      clear hV kv bG2 bG2c bG2f bG2l bO2 bO2c bO2f bO2l U2 sg2
      refine (D1.out V3 _ sgv).mono ?_
      rintro e w3 ⟨AK, cK, BK, dK, rfl, sK3, k3⟩
      have bG3 := bGv.up k3
      have bO3 := bOv.up k3
      have U3 := Uv.trans k3
      have sg3 := sgv.up k3
      clear k3 Uv bGv bOv sgv
      have bG3c := bG3.cell
      have bG3f := bG3.frozen
      have bG3l := bG3.lt
      have bO3c := bO3.cell
      have bO3f := bO3.frozen
      have bO3l := bO3.lt
      go_wp2_with (fail)
      refine calls_at (fun V4 hV => ?_)
      have kv : Up w3 V4 := by rw [hV]; (repeat (first | with_reducible exact Up.refl _ | with_reducible refine Up.alloc ?_ _ | with_reducible refine Up.drew ?_ | refine Up.setCell ?_ (by simp <;> omega) _))
      have bGv := bG3.up kv
      have bOv := bO3.up kv
      have bKv : Blk V4 (w3.heap.size) 25 #[.slice AK n1 cK, .slice BK s1 dK] := by rw [hV]; (repeat (first | with_reducible exact Blk.new' _ (by simp) _ _ | with_reducible refine Blk.alloc ?_ _ | with_reducible refine Blk.drew ?_ | refine Blk.far ?_ (by simp <;> omega) _))
      have bAv : Blk V4 (w3.heap.size + 1) 39 #[.int .i64 0, .int .u64 x, .bool y] := by rw [hV]; (repeat (first | with_reducible exact Blk.new' _ (by simp) _ _ | with_reducible refine Blk.alloc ?_ _ | with_reducible refine Blk.drew ?_ | refine Blk.far ?_ (by simp <;> omega) _))
      have Uv : Up w V4 := U3.trans kv
      have sgv := sg3.up kv
      have sKv := sK3.up kv
      clear hV kv bG3 bG3c bG3f bG3l bO3 bO3c bO3f bO3l U3 sg3 sK3
      refine (HRT.out V4 _ sKv).mono ?_
      rintro e w4 ⟨rfl, k4⟩
      have bG4 := bGv.up k4
      have bO4 := bOv.up k4
      have bK4 := bKv.up k4
      have bA4 := bAv.up k4
      have U4 := Uv.trans k4
      have sg4 := sgv.up k4
      have sK4 := sKv.up k4
      clear k4 Uv bGv bOv bKv bAv sgv sKv
      have bG4c := bG4.cell
      have bG4f := bG4.frozen
      have bG4l := bG4.lt
      have bO4c := bO4.cell
      have bO4f := bO4.frozen
      have bO4l := bO4.lt
      have bK4c := bK4.cell
      have bK4f := bK4.frozen
      have bK4l := bK4.lt
      have bA4c := bA4.cell
      have bA4f := bA4.frozen
      have bA4l := bA4.lt
      go_wp2
      go_ret
      refine ⟨rfl, ?_⟩
      (repeat (first | with_reducible exact U4 | with_reducible refine Up.alloc ?_ _ | with_reducible refine Up.drew ?_ | refine Up.setCell ?_ (by simp <;> omega) _))
    · obtain ⟨q1, q2⟩ := hnil he
      simp only [Prod.mk.injEq] at q2
      obtain ⟨-, rfl, rfl⟩ := q2
      have HSM := Lib.hid (fun W' u (hu : GrV W' u (kn, ks)) (hu2 : GrV W' (.agg #[.slice Ag n cg, .slice Bg s dg]) g) => by
        have h := rsame_any u (.agg #[.slice Ag n cg, .slice Bg s dg]) (kn, ks) g W' hu hu2
        rw [decide_eq_true q1] at h
        exact h)
      have hb : (e != 0) = true := bne_iff_ne.2 he
      have hea := eq_ans e 0 false e 0 false
      rw [decide_eq_true ⟨rfl, rfl, rfl⟩] at hea
      clear he q1 e1 e2 e3 hn1 hs1
      go_enter Try.func4, Try.ntmps4
      go_wp2_with (fail)
      refine calls_at (fun V1 hV => ?_)
      have kv : Up w V1 := by rw [hV]; (repeat (first | with_reducible exact Up.refl _ | with_reducible refine Up.alloc ?_ _ | with_reducible refine Up.drew ?_ | refine Up.setCell ?_ (by simp <;> omega) _))
      have bGv : Blk V1 (w.heap.size) 25 #[.slice Ag n cg, .slice Bg s dg] := by rw [hV]; (repeat (first | with_reducible exact Blk.new' _ (by simp) _ _ | with_reducible refine Blk.alloc ?_ _ | with_reducible refine Blk.drew ?_ | refine Blk.far ?_ (by simp <;> omega) _))
      have bOv : Blk V1 (w.heap.size + 1) 30 #[.int .i64 kd, .int .i64 hh, .int .i64 ii, .int .i64 kk, .int .u64 vv, .int .i64 tt, .int .i64 ll, .int .u64 mm] := by rw [hV]; (repeat (first | with_reducible exact Blk.new' _ (by simp) _ _ | with_reducible refine Blk.alloc ?_ _ | with_reducible refine Blk.drew ?_ | refine Blk.far ?_ (by simp <;> omega) _))
      have Uv : Up w V1 := kv
      have sgv := sg0.up kv
      clear hV kv sg0
      refine (HSH.out V1).mono ?_
      rintro e w1 ⟨rfl, k1⟩
      have bG1 := bGv.up k1
      have bO1 := bOv.up k1
      have U1 := Uv.trans k1
      have sg1 := sgv.up k1
      clear k1 Uv bGv bOv sgv
      have bG1c := bG1.cell
      have bG1f := bG1.frozen
      have bG1l := bG1.lt
      have bO1c := bO1.cell
      have bO1f := bO1.frozen
      have bO1l := bO1.lt
      go_wp2_with (fail)
      refine calls_at (fun V2 hV => ?_)
      have kv : Up w1 V2 := by rw [hV]; (repeat (first | with_reducible exact Up.refl _ | with_reducible refine Up.alloc ?_ _ | with_reducible refine Up.drew ?_ | refine Up.setCell ?_ (by simp <;> omega) _))
      have bGv := bG1.up kv
      have bOv := bO1.up kv
      have Uv : Up w V2 := U1.trans kv
      have sgv := sg1.up kv
      clear hV kv bG1 bG1c bG1f bG1l bO1 bO1c bO1f bO1l U1 sg1
      refine (HFW.out V2 sgv).mono ?_
      rintro e w2 ⟨rfl, k2⟩
      have bG2 := bGv.up k2
      have bO2 := bOv.up k2
      have U2 := Uv.trans k2
      have sg2 := sgv.up k2
      clear k2 Uv bGv bOv sgv
      have bG2c := bG2.cell
      have bG2f := bG2.frozen
      have bG2l := bG2.lt
      have bO2c := bO2.cell
      have bO2f := bO2.frozen
      have bO2l := bO2.lt
      go_wp2_with (fail)
      refine calls_at (fun V3 hV => ?_)
      have kv : Up w2 V3 := by rw [hV]; (repeat (first | with_reducible exact Up.refl _ | with_reducible refine Up.alloc ?_ _ | with_reducible refine Up.drew ?_ | refine Up.setCell ?_ (by simp <;> omega) _))
      have bGv := bG2.up kv
      have bOv := bO2.up kv
      have Uv : Up w V3 := U2.trans kv
      have sgv := sg2.up kv
      clear hV kv bG2 bG2c bG2f bG2l bO2 bO2c bO2f bO2l U2 sg2
      refine (D1.out V3 _ sgv).mono ?_
      rintro e w3 ⟨AK, cK, BK, dK, rfl, sK3, k3⟩
      have bG3 := bGv.up k3
      have bO3 := bOv.up k3
      have U3 := Uv.trans k3
      have sg3 := sgv.up k3
      clear k3 Uv bGv bOv sgv
      have bG3c := bG3.cell
      have bG3f := bG3.frozen
      have bG3l := bG3.lt
      have bO3c := bO3.cell
      have bO3f := bO3.frozen
      have bO3l := bO3.lt
      go_wp2_with (fail)
      refine calls_at (fun V4 hV => ?_)
      have kv : Up w3 V4 := by rw [hV]; (repeat (first | with_reducible exact Up.refl _ | with_reducible refine Up.alloc ?_ _ | with_reducible refine Up.drew ?_ | refine Up.setCell ?_ (by simp <;> omega) _))
      have bGv := bG3.up kv
      have bOv := bO3.up kv
      have bKv : Blk V4 (w3.heap.size) 25 #[.slice AK n1 cK, .slice BK s1 dK] := by rw [hV]; (repeat (first | with_reducible exact Blk.new' _ (by simp) _ _ | with_reducible refine Blk.alloc ?_ _ | with_reducible refine Blk.drew ?_ | refine Blk.far ?_ (by simp <;> omega) _))
      have bAv : Blk V4 (w3.heap.size + 1) 39 #[.int .i64 e, .int .u64 0, .bool false] := by rw [hV]; (repeat (first | with_reducible exact Blk.new' _ (by simp) _ _ | with_reducible refine Blk.alloc ?_ _ | with_reducible refine Blk.drew ?_ | refine Blk.far ?_ (by simp <;> omega) _))
      have Uv : Up w V4 := U3.trans kv
      have sgv := sg3.up kv
      have sKv := sK3.up kv
      clear hV kv bG3 bG3c bG3f bG3l bO3 bO3c bO3f bO3l U3 sg3 sK3
      refine (HRT.out V4 _ sKv).mono ?_
      rintro e w4 ⟨rfl, k4⟩
      have bG4 := bGv.up k4
      have bO4 := bOv.up k4
      have bK4 := bKv.up k4
      have bA4 := bAv.up k4
      have U4 := Uv.trans k4
      have sg4 := sgv.up k4
      have sK4 := sKv.up k4
      clear k4 Uv bGv bOv bKv bAv sgv sKv
      have bG4c := bG4.cell
      have bG4f := bG4.frozen
      have bG4l := bG4.lt
      have bO4c := bO4.cell
      have bO4f := bO4.frozen
      have bO4l := bO4.lt
      have bK4c := bK4.cell
      have bK4f := bK4.frozen
      have bK4l := bK4.lt
      have bA4c := bA4.cell
      have bA4f := bA4.frozen
      have bA4l := bA4.lt
      go_wp2_with (fail)
      refine calls_at (fun V5 hV => ?_)
      have kv : Up w4 V5 := by rw [hV]; (repeat (first | with_reducible exact Up.refl _ | with_reducible refine Up.alloc ?_ _ | with_reducible refine Up.drew ?_ | refine Up.setCell ?_ (by simp <;> omega) _))
      have bGv := bG4.up kv
      have bOv := bO4.up kv
      have bKv := bK4.up kv
      have bAv := bA4.up kv
      have Uv : Up w V5 := U4.trans kv
      have sgv := sg4.up kv
      have sKv := sK4.up kv
      clear hV kv bG4 bG4c bG4f bG4l bO4 bO4c bO4f bO4l bK4 bK4c bK4f bK4l bA4 bA4c bA4f bA4l U4 sg4 sK4
      refine (HSM.out V5 _ sKv sgv).mono ?_
      rintro e w5 ⟨rfl, k5⟩
      have bG5 := bGv.up k5
      have bO5 := bOv.up k5
      have bK5 := bKv.up k5
      have bA5 := bAv.up k5
      have U5 := Uv.trans k5
      have sg5 := sgv.up k5
      have sK5 := sKv.up k5
      clear k5 Uv bGv bOv bKv bAv sgv sKv
      have bG5c := bG5.cell
      have bG5f := bG5.frozen
      have bG5l := bG5.lt
      have bO5c := bO5.cell
      have bO5f := bO5.frozen
      have bO5l := bO5.lt
      have bK5c := bK5.cell
      have bK5f := bK5.frozen
      have bK5l := bK5.lt
      have bA5c := bA5.cell
      have bA5f := bA5.frozen
      have bA5l := bA5.lt
      go_wp2
      go_ret
      refine ⟨rfl, ?_⟩
      (repeat (first | with_reducible exact U5 | with_reducible refine Up.alloc ?_ _ | with_reducible refine Up.drew ?_ | refine Up.setCell ?_ (by simp <;> omega) _))
  · have hf' : fewB g = false := by simpa using hf
    rw [hf'] at HFW
    have sg0 := hg
    clear hg hf hf' hi
    generalize g.1.length = n at *
    generalize g.2.length = s at *
    go_enter Try.func4, Try.ntmps4
    go_wp2_with (fail)
    refine calls_at (fun V1 hV => ?_)
    have kv : Up w V1 := by rw [hV]; (repeat (first | with_reducible exact Up.refl _ | with_reducible refine Up.alloc ?_ _ | with_reducible refine Up.drew ?_ | refine Up.setCell ?_ (by simp <;> omega) _))
    have bGv : Blk V1 (w.heap.size) 25 #[.slice Ag n cg, .slice Bg s dg] := by rw [hV]; (repeat (first | with_reducible exact Blk.new' _ (by simp) _ _ | with_reducible refine Blk.alloc ?_ _ | with_reducible refine Blk.drew ?_ | refine Blk.far ?_ (by simp <;> omega) _))
    have bOv : Blk V1 (w.heap.size + 1) 30 #[.int .i64 kd, .int .i64 hh, .int .i64 ii, .int .i64 kk, .int .u64 vv, .int .i64 tt, .int .i64 ll, .int .u64 mm] := by rw [hV]; (repeat (first | with_reducible exact Blk.new' _ (by simp) _ _ | with_reducible refine Blk.alloc ?_ _ | with_reducible refine Blk.drew ?_ | refine Blk.far ?_ (by simp <;> omega) _))
    have Uv : Up w V1 := kv
    have sgv := sg0.up kv
    clear hV kv sg0
    refine (HSH.out V1).mono ?_
    rintro e w1 ⟨rfl, k1⟩
    have bG1 := bGv.up k1
    have bO1 := bOv.up k1
    have U1 := Uv.trans k1
    have sg1 := sgv.up k1
    clear k1 Uv bGv bOv sgv
    have bG1c := bG1.cell
    have bG1f := bG1.frozen
    have bG1l := bG1.lt
    have bO1c := bO1.cell
    have bO1f := bO1.frozen
    have bO1l := bO1.lt
    go_wp2_with (fail)
    refine calls_at (fun V2 hV => ?_)
    have kv : Up w1 V2 := by rw [hV]; (repeat (first | with_reducible exact Up.refl _ | with_reducible refine Up.alloc ?_ _ | with_reducible refine Up.drew ?_ | refine Up.setCell ?_ (by simp <;> omega) _))
    have bGv := bG1.up kv
    have bOv := bO1.up kv
    have Uv : Up w V2 := U1.trans kv
    have sgv := sg1.up kv
    clear hV kv bG1 bG1c bG1f bG1l bO1 bO1c bO1f bO1l U1 sg1
    refine (HFW.out V2 sgv).mono ?_
    rintro e w2 ⟨rfl, k2⟩
    have bG2 := bGv.up k2
    have bO2 := bOv.up k2
    have U2 := Uv.trans k2
    have sg2 := sgv.up k2
    clear k2 Uv bGv bOv sgv
    have bG2c := bG2.cell
    have bG2f := bG2.frozen
    have bG2l := bG2.lt
    have bO2c := bO2.cell
    have bO2f := bO2.frozen
    have bO2l := bO2.lt
    go_wp2
    go_ret
    refine ⟨rfl, ?_⟩
    (repeat (first | with_reducible exact U2 | with_reducible refine Up.alloc ?_ _ | with_reducible refine Up.drew ?_ | refine Up.setCell ?_ (by simp <;> omega) _))
theorem own : ownKnob Try.prog.godebug = none := by kernel_rfl
set_option maxRecDepth 100000 in
theorem contract (H : Type) (enc : TypeId × Value → H) (W : World) (base : Nat) (args : Array Value) (ds gs : List (DataW H)) (before : List MemPlace)
    (hval0 : ∀ (j : Nat) t v, Try.f4.params[j]? = some t → args[j]? = some v → Value.okWide Try.prog W .any base t v)
    (hW : DataW.Whole enc Try.prog Try.f4.params.toList Rows.graphStaysSpec.vars false W args.toList ds gs before) (hk : Rows.uptoSmall H (ds ++ gs) = true) :
    Calls Try.prog 4 args W fun e W' => ∃ v, e = .returned v ∧ Rows.graphStaysSpec.post enc Try.prog Try.f4 false true false false W args v W' := by
  have hval : ∀ (j : Nat) t v, Try.f4.params[j]? = some t → args[j]? = some v → Value.okWide Try.prog W .any base t v := hval0
  have hW' := hW
  obtain ⟨p, q, hA0, hV, rfl, hfz, hnd⟩ := hW
  have hA : DataW.TrodAll enc Try.prog W 0 (fun _ => true) true Try.f4.params.toList args.toList ds p := hA0
  rw [Try.params4] at hA hval
  obtain ⟨v0, vs0, d0, ds0, p0, q0, hargs, rfl, rfl, h0, r0⟩ := trodAll_cons hA
  obtain ⟨v1, vs1, d1, ds1, p1, q1, rfl, rfl, rfl, h1, r1⟩ := trodAll_cons r0
  obtain ⟨v2, vs2, d2, ds2, p2, q2, rfl, rfl, rfl, h2, r2⟩ := trodAll_cons r1
  obtain ⟨rfl, rfl, rfl⟩ := trodAll_nil r2
  obtain rfl : args = #[v0, v1, v2] := by cases args; simp_all
  obtain ⟨rfl, rfl⟩ := trodVars_none hV
  have hbk : Rows.uptoBulkAll [d0, d1, d2] ≤ 1048576 := of_decide_eq_true hk
  simp only [Rows.uptoBulkAll] at hbk
  clear hk
  have h0k := h0
  obtain ⟨g0, hg0, hi0⟩ := graph_at (hval 0 25 v0 rfl rfl) h0
  obtain ⟨a1, rfl, rfl, rfl, w1⟩ := open_int Try.underlying3 (hval 1 3 v1 rfl rfl) h1
  have h2k := h2
  obtain ⟨kd, hh, ii, kk, vv, tt, ll, mm, rfl, o1, o2, o3, o4, o5, o6⟩ := op_at (hval 2 30 v2 rfl rfl) h2
  clear hA0 hval0
  simp only [List.append_nil, List.nil_append] at hW'
  refine (walk v0 g0 (Rows.uptoBulk d0) a1 kd hh ii kk vv tt ll mm W hg0 hi0 (by omega) o1 o5 o6).mono fun e W' ⟨he, hg⟩ => ?_
  subst he
  exact ⟨_, rfl, post_below (pa := p0 ++ p2) (pv := []) hW' (fun _ _ _ => (trodAll_cons_mk (shut_bool Try.underlying4 _) trodAll_mk0))
    (fun sp hsp => by
      have t := (trodAll_cons_mk (trod_keeps (sp := sp) (by kernel_rfl) (of_decide_eq_true (by kernel_rfl)) h0k hg (fun x hx => hW'.lt x (by simp [hx])) (fun x hx => hsp x (by simp [hx]))) (trodAll_cons_mk (shut_int Try.underlying3 w1) (trodAll_cons_mk (trod_keeps (sp := sp) (by kernel_rfl) (of_decide_eq_true (by kernel_rfl)) h2k hg (fun x hx => hW'.lt x (by simp [hx])) (fun x hx => hsp x (by simp [hx]))) trodAll_mk0)))
      simp only [List.append_nil, List.nil_append] at t
      exact t) (fun _ _ => rfl) (by simp)
    hg (ok_one (by kernel_rfl) rfl (okWide_bool_mk Try.underlying4 _))⟩

set_option maxRecDepth 100000 in
theorem lifted (os : Os) (started : os.Started) (H : Type) (enc : TypeId × Value → H) (F : Stop.Interp) :
    ReturnsInHanded {} Try.checked os 4 .any ((Rows.OpenSpec.upto Rows.graphStaysSpec).pre6 enc Try.prog Try.f4 Rows.graphStaysUptoRow.domain false) (((Rows.OpenSpec.upto Rows.graphStaysSpec).at F).post enc Try.prog Try.f4 false true false false) := by
  refine returnsInHanded_of_cond (C := Try.checked) (s := Rows.OpenSpec.upto Rows.graphStaysSpec) (k := Rows.uptoSmall) rfl own started (by kernel_rfl) Try.func4
    (OpenSpec.witness (enc := enc) (C := Try.checked) (s := Rows.OpenSpec.upto Rows.graphStaysSpec) (k := Rows.uptoSmall) rfl false ⟨#[], #[.agg #[.slice none 0 0, .slice none 0 0], .int .i64 0, .agg #[.int .i64 0, .int .i64 0, .int .i64 0, .int .i64 0, .int .u64 0, .int .i64 0, .int .i64 0, .int .u64 0]], []⟩ 8 (by kernel_rfl) (by kernel_rfl) (by kernel_rfl)
      (x := ([.agg [.nil, .nil], .lit (.int .i64 0), .agg [.lit (.int .i64 0), .lit (.int .i64 0), .lit (.int .i64 0), .lit (.int .i64 0), .lit (.int .u64 0), .agg [.lit (.int .i64 0), .lit (.int .i64 0), .lit (.int .u64 0)]]], [], [])) (by kernel_rfl) rfl (by kernel_rfl)) ?_
  intro W base args ds gs before hval hW _ hk _
  exact contract H enc W base args ds gs before hval hW hk

set_option maxRecDepth 100000 in
theorem over : Rows.graphStaysUptoRow.holds Try.pinned (Rows.OpenSpec.upto Rows.graphStaysSpec) :=
  OpenClaim.holds_of_cond 4 Try.f4 rfl rfl rfl rfl rfl rfl rfl ⟨rfl, rfl, rfl, rfl, rfl⟩ rfl rfl rfl rfl rfl (by kernel_rfl) Try.func4 (by kernel_rfl)
    (of_decide_eq_true (by kernel_rfl)) (by unfold Func.isWrapper; first | (rw [if_pos (by decide +kernel)]; kernel_rfl) | (rw [if_neg (by decide +kernel)]; exact ⟨rfl, rfl⟩))
    (fun os started H enc _ F => lifted os started H enc F)

theorem proved : Rows.GraphStaysUptoSaid :=
  over
#print axioms proved
end Go.Proofs.Ytlocllcijncllaa.LGraphStays
