/- GraphCanon, of all graphs that a machine can hold: it tells true, and changes nothing that it was handed. -/
import Derived.Test.YtlocllcijncllaaCz
namespace Go.Proofs.Ytlocllcijncllaa.LGraphCanon
open Go.Joins Go.ChangeShapes Go.WideShapes Go.ChangeAt Go.RowKit Go.Deep Go.Shelf Go.Maps
set_option linter.unusedVariables false
set_option linter.unusedSimpArgs false

set_option maxRecDepth 100000 in
theorem graph_at {H : Type} {enc : TypeId × Value → H} {w : World} {r : Reach} {b0 : Nat} {v : Value} {d : DataW H} {p : List MemPlace} (hv : Value.okWide Try.prog w r b0 25 v) (h : DataW.Trod enc Try.prog w 0 (fun _ => true) true 25 v d p) :
    ∃ g, GrV w v g ∧ GrIn g (Rows.uptoBulk d) := by
  obtain ⟨⟨l⟩, rfl, hsz⟩ := okWide_struct Try.underlying25 hv
  obtain ⟨fuel, hf⟩ := h
  obtain ⟨a, b, g, e, h1, h2⟩ := graph_cells (x := (d, p)) (cs := l) hf
  subst e
  exact ⟨g, h1, h2⟩
set_option maxRecDepth 100000 in
theorem op_at {H : Type} {enc : TypeId × Value → H} {w : World} {r : Reach} {b0 : Nat} {v : Value} {d : DataW H} {p : List MemPlace} (hv : Value.okWide Try.prog w r b0 30 v) (h : DataW.Trod enc Try.prog w 0 (fun _ => true) true 30 v d p) :
    ∃ kd hh i k u t l m : Int, v = .agg #[.int .i64 kd, .int .i64 hh, .int .i64 i, .int .i64 k, .int .u64 u, .int .i64 t, .int .i64 l, .int .u64 m] ∧ I64 kd ∧ I64 hh ∧ I64 i ∧ I64 k ∧ U64 u ∧ U64 m := by
  obtain ⟨⟨l⟩, rfl, hsz⟩ := okWide_struct Try.underlying30 hv
  obtain ⟨fuel, hf⟩ := h
  obtain ⟨a0, a1, a2, a3, a4, a5, a6, a7, e, r⟩ := op_cells (x := (d, p)) (cs := l) hf
  subst e
  exact ⟨a0, a1, a2, a3, a4, a5, a6, a7, rfl, r⟩
/-- Canon's contract, as it is wanted. -/
def Cq (K : Gr) (w : World) (en : Ending) (w' : World) : Prop := ∃ A c B d, en = .returned (.agg #[.slice A K.1.length c, .slice B K.2.length d]) ∧ GrV w' (.agg #[.slice A K.1.length c, .slice B K.2.length d]) K ∧ Up w w'
theorem can_any (g : Gr) (hg : Ok g) (W : World) (u : Value) (hu : GrV W u g) : Calls Try.prog 20 #[u] W (Cq (canon g) W) := by
  refine (canon_any u g W hu hg.rg hg.n (hg.rg.fit (by have := hg.n; omega) (by have := hg.s; omega) (by have := hg.b; omega))).mono ?_
  rintro e w' ⟨v, rfl, h, k⟩
  obtain ⟨A, c, B, d, rfl, -, -⟩ := h.form
  exact ⟨A, c, B, d, rfl, h, k⟩
set_option maxRecDepth 100000 in
set_option maxHeartbeats 8000000 in
theorem walk (v : Value) (g : Gr) (B : Nat) (th kd hh ii kk vv tt ll mm : Int) (w : World) (hg : GrV w v g) (hi : GrIn g B) (hB : B ≤ 1048576) (o1 : I64 kd) (o5 : U64 vv) (o6 : U64 mm) :
    Calls Try.prog 5 #[v, .int .i64 th, .agg #[.int .i64 kd, .int .i64 hh, .int .i64 ii, .int .i64 kk, .int .u64 vv, .int .i64 tt, .int .i64 ll, .int .u64 mm]] w fun e w' => e = .returned (.bool true) ∧ Up w w' := by
  obtain ⟨Ag, cg, Bg, dg, rfl, m1, m2⟩ := hg.form
  have HSH := Lib.hid shown_any
  have HFW := Lib.hid (fun W' (u : GrV W' (.agg #[.slice Ag g.1.length cg, .slice Bg g.2.length dg]) g) => few_any (.agg #[.slice Ag g.1.length cg, .slice Bg g.2.length dg]) g W' u hi.nd)
  by_cases hf : fewB g = true
  · have hF := (few_of hf hi).okk hB
    have hok := hF.ok (by omega)
    have hn1 : g.1.length ≤ 100 := by have := hF.n; omega
    have ok1 := hF.step (by omega) th ⟨kd, hh, ii, kk, vv, tt, ll, mm⟩ o5 o6
    have ok2 := (hF.canon (by omega)).step (by omega) th ⟨kd, hh, ii, kk, vv, tt, ll, mm⟩ o5 o6
    have okc := (hF.canon (by omega)).ok (by omega)
    obtain ⟨kn, ks, n1, s1, e, x, y, hd, hq1, hq2, D1⟩ := do_let g th kd hh ii kk vv tt ll mm hok o1 o5 o6
    obtain ⟨kn2, ks2, n2, s2, e2, x2, y2, hd2, hq3, hq4, D2⟩ := do_let (canon g) th kd hh ii kk vv tt ll mm okc o1 o5 o6
    obtain ⟨q1, q2⟩ := canon_do hF.rg hn1 th ⟨kd, hh, ii, kk, vv, tt, ll, mm⟩
    rw [hd] at ok1
    rw [hd2] at ok2
    rw [hd, hd2] at q1 q2
    simp only [Prod.mk.injEq] at q1
    obtain ⟨rfl, rfl, rfl⟩ := q1
    have D1 := Lib.hid D1
    have D2 := Lib.hid D2
    have HC1 := Lib.hid (can_any g hok)
    have HC2 := Lib.hid (can_any (kn, ks) (ok1.ok (by omega)))
    have hc3 := can_any (kn2, ks2) (ok2.ok (by omega))
    rw [show canon (kn2, ks2) = canon (kn, ks) from q2] at hc3
    have HC3 := Lib.hid hc3
    have hc4 := can_any (canon g) okc
    rw [canon_canon hF.rg hn1] at hc4
    have HC4 := Lib.hid hc4
    have HS := Lib.hid (fun (K : Gr) W u z (hu : GrV W u K) (hz : GrV W z K) => by
      have h := rsame_any u z K K W hu hz
      rw [decide_eq_true rfl] at h
      exact h)
    have hea := eq_ans e2 x2 y2 e2 x2 y2
    rw [decide_eq_true ⟨rfl, rfl, rfl⟩] at hea
    rw [hf] at HFW
    have sg0 := hg
    clear hg hf hok hF ok1 ok2 okc hd hd2 q2 hc3 hc4 hi hn1 hq1 hq2 hq3 hq4
    generalize canon g = K1 at *
    generalize canon (kn, ks) = K2 at *
    generalize g.1.length = n at *
    generalize g.2.length = s at *
    go_enter Try.func5, Try.ntmps5
    go_wp2_with (fail)
    refine calls_at (fun V1 hV => ?_)
    have kv : Up w V1 := by rw [hV]; (repeat (first | with_reducible exact Up.refl _ | with_reducible refine Up.alloc ?_ _ | with_reducible refine Up.drew ?_ | refine Up.setCell ?_ (by simp <;> omega) _))
    have bGv : Blk V1 (w.heap.size) 25 #[.slice Ag n cg, .slice Bg s dg] := by rw [hV]; (repeat (first | with_reducible exact Blk.new' _ (by simp) _ _ | with_reducible refine Blk.alloc ?_ _ | with_reducible refine Blk.drew ?_ | refine Blk.far ?_ (by simp <;> omega) _))
    have bOv : Blk V1 (w.heap.size + 1) 30 #[.int .i64 kd, .int .i64 hh, .int .i64 ii, .int .i64 kk, .int .u64 vv, .int .i64 tt, .int .i64 ll, .int .u64 mm] := by rw [hV]; (repeat (first | with_reducible exact Blk.new' _ (by simp) _ _ | with_reducible refine Blk.alloc ?_ _ | with_reducible refine Blk.drew ?_ | refine Blk.far ?_ (by simp <;> omega) _))
    have Uv : Up w V1 := kv
    have sgv := sg0.up kv
    clear hV kv sg0
    refine (HSH.out V1).mono ?_
    rintro e w1 ⟨rfl, k1⟩
    have bG1 := bGv.up k1
    have bO1 := bOv.up k1
    have U1 := Uv.trans k1
    have sg1 := sgv.up k1
    clear k1 Uv bGv bOv sgv
    have bG1c := bG1.cell
    have bG1f := bG1.frozen
    have bG1l := bG1.lt
    have bO1c := bO1.cell
    have bO1f := bO1.frozen
    have bO1l := bO1.lt
    go_wp2_with (fail)
    refine calls_at (fun V2 hV => ?_)
    have kv : Up w1 V2 := by rw [hV]; (repeat (first | with_reducible exact Up.refl _ | with_reducible refine Up.alloc ?_ _ | with_reducible refine Up.drew ?_ | refine Up.setCell ?_ (by simp <;> omega) _))
    have bGv := bG1.up kv
    have bOv := bO1.up kv
    have Uv : Up w V2 := U1.trans kv
    have sgv := sg1.up kv
    clear hV kv bG1 bG1c bG1f bG1l bO1 bO1c bO1f bO1l U1 sg1
    refine (HFW.out V2 sgv).mono ?_
    rintro e w2 ⟨rfl, k2⟩
    have bG2 := bGv.up k2
    have bO2 := bOv.up k2
    have U2 := Uv.trans k2
    have sg2 := sgv.up k2
    clear k2 Uv bGv bOv sgv
    have bG2c := bG2.cell
    have bG2f := bG2.frozen
    have bG2l := bG2.lt
    have bO2c := bO2.cell
    have bO2f := bO2.frozen
    have bO2l := bO2.lt
    go_wp2_with (fail)
    refine calls_at (fun V3 hV => ?_)
    have kv : Up w2 V3 := by rw [hV]; (repeat (first | with_reducible exact Up.refl _ | with_reducible refine Up.alloc ?_ _ | with_reducible refine Up.drew ?_ | refine Up.setCell ?_ (by simp <;> omega) _))
    have bGv := bG2.up kv
    have bOv := bO2.up kv
    have Uv : Up w V3 := U2.trans kv
    have sgv := sg2.up kv
    clear hV kv bG2 bG2c bG2f bG2l bO2 bO2c bO2f bO2l U2 sg2
    refine (HC1.out V3 _ sgv).mono ?_
    rintro e w3 ⟨AC, cC, BC, dC, rfl, sC3, k3⟩
    have bG3 := bGv.up k3
    have bO3 := bOv.up k3
    have U3 := Uv.trans k3
    have sg3 := sgv.up k3
    clear k3 Uv bGv bOv sgv
    have bG3c := bG3.cell
    have bG3f := bG3.frozen
    have bG3l := bG3.lt
    have bO3c := bO3.cell
    have bO3f := bO3.frozen
    have bO3l := bO3.lt
    generalize K1.1.length = p1 at *
    generalize K1.2.length = p2 at *
    go_wp2_with (fail)
    refine calls_at (fun V4 hV => ?_)
    have kv : Up w3 V4 := by rw [hV]; (repeat (first | with_reducible exact Up.refl _ | with_reducible refine Up.alloc ?_ _ | with_reducible refine Up.drew ?_ | refine Up.setCell ?_ (by simp <;> omega) _))
    have bGv := bG3.up kv
    have bOv := bO3.up kv
    have bCv : Blk V4 (w3.heap.size) 25 #[.slice AC p1 cC, .slice BC p2 dC] := by rw [hV]; (repeat (first | with_reducible exact Blk.new' _ (by simp) _ _ | with_reducible refine Blk.alloc ?_ _ | with_reducible refine Blk.drew ?_ | refine Blk.far ?_ (by simp <;> omega) _))
    have Uv : Up w V4 := U3.trans kv
    have sgv := sg3.up kv
    have sCv := sC3.up kv
    clear hV kv bG3 bG3c bG3f bG3l bO3 bO3c bO3f bO3l U3 sg3 sC3
    refine (D1.out V4 _ sgv).mono ?_
    rintro e w4 ⟨AP, cP, BP, dP, rfl, sP4, k4⟩
    have bG4 := bGv.up k4
    have bO4 := bOv.up k4
    have bC4 := bCv.up k4
    have U4 := Uv.trans k4
    have sg4 := sgv.up k4
    have sC4 := sCv.up k4
    clear k4 Uv bGv bOv bCv sgv sCv
    have bG4c := bG4.cell
    have bG4f := bG4.frozen
    have bG4l := bG4.lt
    have bO4c := bO4.cell
    have bO4f := bO4.frozen
    have bO4l := bO4.lt
    have bC4c := bC4.cell
    have bC4f := bC4.frozen
    have bC4l := bC4.lt
    go_wp2_with (fail)
    refine calls_at (fun V5 hV => ?_)
    have kv : Up w4 V5 := by rw [hV]; (repeat (first | with_reducible exact Up.refl _ | with_reducible refine Up.alloc ?_ _ | with_reducible refine Up.drew ?_ | refine Up.setCell ?_ (by simp <;> omega) _))
    have bGv := bG4.up kv
    have bOv := bO4.up kv
    have bCv := bC4.up kv
    have bPv : Blk V5 (w4.heap.size) 25 #[.slice AP n1 cP, .slice BP s1 dP] := by rw [hV]; (repeat (first | with_reducible exact Blk.new' _ (by simp) _ _ | with_reducible refine Blk.alloc ?_ _ | with_reducible refine Blk.drew ?_ | refine Blk.far ?_ (by simp <;> omega) _))
    have bXv : Blk V5 (w4.heap.size + 1) 39 #[.int .i64 e2, .int .u64 x2, .bool y2] := by rw [hV]; (repeat (first | with_reducible exact Blk.new' _ (by simp) _ _ | with_reducible refine Blk.alloc ?_ _ | with_reducible refine Blk.drew ?_ | refine Blk.far ?_ (by simp <;> omega) _))
    have Uv : Up w V5 := U4.trans kv
    have sgv := sg4.up kv
    have sCv := sC4.up kv
    have sPv := sP4.up kv
    clear hV kv bG4 bG4c bG4f bG4l bO4 bO4c bO4f bO4l bC4 bC4c bC4f bC4l U4 sg4 sC4 sP4
    refine (D2.out V5 _ sCv).mono ?_
    rintro e w5 ⟨AQ, cQ, BQ, dQ, rfl, sQ5, k5⟩
    have bG5 := bGv.up k5
    have bO5 := bOv.up k5
    have bC5 := bCv.up k5
    have bP5 := bPv.up k5
    have bX5 := bXv.up k5
    have U5 := Uv.trans k5
    have sg5 := sgv.up k5
    have sC5 := sCv.up k5
    have sP5 := sPv.up k5
    clear k5 Uv bGv bOv bCv bPv bXv sgv sCv sPv
    have bG5c := bG5.cell
    have bG5f := bG5.frozen
    have bG5l := bG5.lt
    have bO5c := bO5.cell
    have bO5f := bO5.frozen
    have bO5l := bO5.lt
    have bC5c := bC5.cell
    have bC5f := bC5.frozen
    have bC5l := bC5.lt
    have bP5c := bP5.cell
    have bP5f := bP5.frozen
    have bP5l := bP5.lt
    have bX5c := bX5.cell
    have bX5f := bX5.frozen
    have bX5l := bX5.lt
    generalize K2.1.length = p3 at *
    generalize K2.2.length = p4 at *
    clear HSH HFW HC1 D1 D2 sg5
    go_wp2_with (fail)
    all_goals
      obtain ⟨W0, hW0⟩ : ∃ W0 : World, W0 = ((w5.alloc (.cells #[.slice AQ n2 cQ, .slice BQ s2 dQ] 25)).alloc (.cells #[.int .i64 e2, .int .u64 x2, .bool y2] 39)).drew := ⟨_, rfl⟩
      have U0 : Up W0 ((w5.alloc (.cells #[.slice AQ n2 cQ, .slice BQ s2 dQ] 25)).alloc (.cells #[.int .i64 e2, .int .u64 x2, .bool y2] 39)).drew := by rw [hW0]; exact Up.refl _
      have k0 : Up w5 W0 := by rw [hW0]; exact (((Up.refl w5).alloc _).alloc _).drew
      have bP0 := bP5.up k0
      have bC0 := bC5.up k0
      have bX0 := bX5.up k0
      have bY0 : Blk W0 (w5.heap.size + 1) 39 #[.int .i64 e2, .int .u64 x2, .bool y2] := by rw [hW0]; exact Blk.drew (Blk.new' _ (by simp) _ _)
      have bQ0 : Blk W0 w5.heap.size 25 #[.slice AQ n2 cQ, .slice BQ s2 dQ] := by rw [hW0]; exact Blk.drew ((Blk.new w5 _ _).alloc _)
      have sP0 := sP5.up k0
      have sQ0 := sQ5.up k0
      have sC0 := sC5.up k0
      have UW0 := U5.trans k0
      clear hW0 k0 bP5 bC5 bX5 sP5 sQ5 sC5 U5 bP5c bP5f bP5l bC5c bC5f bC5l bX5c bX5f bX5l
      go_region_held3 (fun w' => (∀ i, w'.cell? ⟨w4.heap.size, i, none⟩ = (#[.slice AP n1 cP, .slice BP s1 dP] : Array Value)[i]?) ∧ (∀ i, w'.cell? ⟨w5.heap.size, i, none⟩ = (#[.slice AQ n2 cQ, .slice BQ s2 dQ] : Array Value)[i]?))
        (exact ⟨fun i => (Blk.up bP0 (by assumption)).cell i, fun i => (Blk.up bQ0 (by assumption)).cell i⟩)
        (first
          | (go_at_call 20; ((with_reducible refine (HC2.out _ _ (sP0.up (by assumption))).mono ?_); rintro e wz ⟨Aa, ca, Ba, da, rfl, sA, hz⟩; have UZ := Up.trans (a := W0) (by assumption) hz))
          | (go_at_call 20; ((with_reducible refine (HC3.out _ _ (sQ0.up (by assumption))).mono ?_); rintro e wz ⟨Ab, cb, Bb, db, rfl, sB, hz⟩; have UZ := Up.trans (a := W0) (by assumption) hz))
          | (go_at_call 14; ((with_reducible refine (HS.out K2 _ _ _ (sA.up (by assumption)) sB).mono ?_); rintro e wz ⟨rfl, hz⟩; have UZ := Up.trans (a := W0) (by assumption) hz))
          | (go_at_call 14; ((with_reducible refine (HS.out K2 _ _ _ sA (sB.up (by assumption))).mono ?_); rintro e wz ⟨rfl, hz⟩; have UZ := Up.trans (a := W0) (by assumption) hz)))
      all_goals
        go_wp2_with (fail)
        have U1 : Up W0 wz.drew := UZ.drew
        go_region_held3 (fun w' => (∀ i, w'.cell? ⟨w3.heap.size, i, none⟩ = (#[.slice AC p1 cC, .slice BC p2 dC] : Array Value)[i]?) ∧ (∀ i, w'.cell? ⟨w4.heap.size + 1, i, none⟩ = (#[.int .i64 e2, .int .u64 x2, .bool y2] : Array Value)[i]?) ∧ (∀ i, w'.cell? ⟨w5.heap.size + 1, i, none⟩ = (#[.int .i64 e2, .int .u64 x2, .bool y2] : Array Value)[i]?))
          (exact ⟨fun i => (Blk.up bC0 (by assumption)).cell i, fun i => (Blk.up bX0 (by assumption)).cell i, fun i => (Blk.up bY0 (by assumption)).cell i⟩)
          (first
            | (go_at_call 20; ((with_reducible refine (HC4.out _ _ (sC0.up (by assumption))).mono ?_); rintro e wz ⟨Ad, cd, Bd, dd, rfl, sD, hz⟩; have UZ := Up.trans (a := W0) (by assumption) hz))
            | (go_at_call 14; ((with_reducible refine (HS.out K1 _ _ _ sD (sC0.up (by assumption))).mono ?_); rintro e wz ⟨rfl, hz⟩; have UZ := Up.trans (a := W0) (by assumption) hz)))
        all_goals
          go_wp2
          go_ret
          exact ⟨rfl, UW0.trans UZ⟩
  · have hf' : fewB g = false := by simpa using hf
    rw [hf'] at HFW
    have sg0 := hg
    clear hg hf hf' hi
    generalize g.1.length = n at *
    generalize g.2.length = s at *
    go_enter Try.func5, Try.ntmps5
    go_wp2_with (fail)
    refine calls_at (fun V1 hV => ?_)
    have kv : Up w V1 := by rw [hV]; (repeat (first | with_reducible exact Up.refl _ | with_reducible refine Up.alloc ?_ _ | with_reducible refine Up.drew ?_ | refine Up.setCell ?_ (by simp <;> omega) _))
    have bGv : Blk V1 (w.heap.size) 25 #[.slice Ag n cg, .slice Bg s dg] := by rw [hV]; (repeat (first | with_reducible exact Blk.new' _ (by simp) _ _ | with_reducible refine Blk.alloc ?_ _ | with_reducible refine Blk.drew ?_ | refine Blk.far ?_ (by simp <;> omega) _))
    have bOv : Blk V1 (w.heap.size + 1) 30 #[.int .i64 kd, .int .i64 hh, .int .i64 ii, .int .i64 kk, .int .u64 vv, .int .i64 tt, .int .i64 ll, .int .u64 mm] := by rw [hV]; (repeat (first | with_reducible exact Blk.new' _ (by simp) _ _ | with_reducible refine Blk.alloc ?_ _ | with_reducible refine Blk.drew ?_ | refine Blk.far ?_ (by simp <;> omega) _))
    have Uv : Up w V1 := kv
    have sgv := sg0.up kv
    clear hV kv sg0
    refine (HSH.out V1).mono ?_
    rintro e w1 ⟨rfl, k1⟩
    have bG1 := bGv.up k1
    have bO1 := bOv.up k1
    have U1 := Uv.trans k1
    have sg1 := sgv.up k1
    clear k1 Uv bGv bOv sgv
    have bG1c := bG1.cell
    have bG1f := bG1.frozen
    have bG1l := bG1.lt
    have bO1c := bO1.cell
    have bO1f := bO1.frozen
    have bO1l := bO1.lt
    go_wp2_with (fail)
    refine calls_at (fun V2 hV => ?_)
    have kv : Up w1 V2 := by rw [hV]; (repeat (first | with_reducible exact Up.refl _ | with_reducible refine Up.alloc ?_ _ | with_reducible refine Up.drew ?_ | refine Up.setCell ?_ (by simp <;> omega) _))
    have bGv := bG1.up kv
    have bOv := bO1.up kv
    have Uv : Up w V2 := U1.trans kv
    have sgv := sg1.up kv
    clear hV kv bG1 bG1c bG1f bG1l bO1 bO1c bO1f bO1l U1 sg1
    refine (HFW.out V2 sgv).mono ?_
    rintro e w2 ⟨rfl, k2⟩
    have bG2 := bGv.up k2
    have bO2 := bOv.up k2
    have U2 := Uv.trans k2
    have sg2 := sgv.up k2
    clear k2 Uv bGv bOv sgv
    have bG2c := bG2.cell
    have bG2f := bG2.frozen
    have bG2l := bG2.lt
    have bO2c := bO2.cell
    have bO2f := bO2.frozen
    have bO2l := bO2.lt
    go_wp2
    go_ret
    refine ⟨rfl, ?_⟩
    (repeat (first | with_reducible exact U2 | with_reducible refine Up.alloc ?_ _ | with_reducible refine Up.drew ?_ | refine Up.setCell ?_ (by simp <;> omega) _))
theorem own : ownKnob Try.prog.godebug = none := by kernel_rfl
set_option maxRecDepth 100000 in
theorem contract (H : Type) (enc : TypeId × Value → H) (W : World) (base : Nat) (args : Array Value) (ds gs : List (DataW H)) (before : List MemPlace)
    (hval0 : ∀ (j : Nat) t v, Try.f5.params[j]? = some t → args[j]? = some v → Value.okWide Try.prog W .any base t v)
    (hW : DataW.Whole enc Try.prog Try.f5.params.toList Rows.graphCanonSpec.vars false W args.toList ds gs before) (hk : Rows.uptoSmall H (ds ++ gs) = true) :
    Calls Try.prog 5 args W fun e W' => ∃ v, e = .returned v ∧ Rows.graphCanonSpec.post enc Try.prog Try.f5 false true false false W args v W' := by
  have hval : ∀ (j : Nat) t v, Try.f5.params[j]? = some t → args[j]? = some v → Value.okWide Try.prog W .any base t v := hval0
  have hW' := hW
  obtain ⟨p, q, hA0, hV, rfl, hfz, hnd⟩ := hW
  have hA : DataW.TrodAll enc Try.prog W 0 (fun _ => true) true Try.f5.params.toList args.toList ds p := hA0
  rw [Try.params5] at hA hval
  obtain ⟨v0, vs0, d0, ds0, p0, q0, hargs, rfl, rfl, h0, r0⟩ := trodAll_cons hA
  obtain ⟨v1, vs1, d1, ds1, p1, q1, rfl, rfl, rfl, h1, r1⟩ := trodAll_cons r0
  obtain ⟨v2, vs2, d2, ds2, p2, q2, rfl, rfl, rfl, h2, r2⟩ := trodAll_cons r1
  obtain ⟨rfl, rfl, rfl⟩ := trodAll_nil r2
  obtain rfl : args = #[v0, v1, v2] := by cases args; simp_all
  obtain ⟨rfl, rfl⟩ := trodVars_none hV
  have hbk : Rows.uptoBulkAll [d0, d1, d2] ≤ 1048576 := of_decide_eq_true hk
  simp only [Rows.uptoBulkAll] at hbk
  clear hk
  have h0k := h0
  obtain ⟨g0, hg0, hi0⟩ := graph_at (hval 0 25 v0 rfl rfl) h0
  obtain ⟨a1, rfl, rfl, rfl, w1⟩ := open_int Try.underlying3 (hval 1 3 v1 rfl rfl) h1
  have h2k := h2
  obtain ⟨kd, hh, ii, kk, vv, tt, ll, mm, rfl, o1, o2, o3, o4, o5, o6⟩ := op_at (hval 2 30 v2 rfl rfl) h2
  clear hA0 hval0
  simp only [List.append_nil, List.nil_append] at hW'
  refine (walk v0 g0 (Rows.uptoBulk d0) a1 kd hh ii kk vv tt ll mm W hg0 hi0 (by omega) o1 o5 o6).mono fun e W' ⟨he, hg⟩ => ?_
  subst he
  exact ⟨_, rfl, post_below (pa := p0 ++ p2) (pv := []) hW' (fun _ _ _ => (trodAll_cons_mk (shut_bool Try.underlying4 _) trodAll_mk0))
    (fun sp hsp => by
      have t := (trodAll_cons_mk (trod_keeps (sp := sp) (by kernel_rfl) (of_decide_eq_true (by kernel_rfl)) h0k hg (fun x hx => hW'.lt x (by simp [hx])) (fun x hx => hsp x (by simp [hx]))) (trodAll_cons_mk (shut_int Try.underlying3 w1) (trodAll_cons_mk (trod_keeps (sp := sp) (by kernel_rfl) (of_decide_eq_true (by kernel_rfl)) h2k hg (fun x hx => hW'.lt x (by simp [hx])) (fun x hx => hsp x (by simp [hx]))) trodAll_mk0)))
      simp only [List.append_nil, List.nil_append] at t
      exact t) (fun _ _ => rfl) (by simp)
    hg (ok_one (by kernel_rfl) rfl (okWide_bool_mk Try.underlying4 _))⟩

set_option maxRecDepth 100000 in
theorem lifted (os : Os) (started : os.Started) (H : Type) (enc : TypeId × Value → H) (F : Stop.Interp) :
    ReturnsInHanded {} Try.checked os 5 .any ((Rows.OpenSpec.upto Rows.graphCanonSpec).pre6 enc Try.prog Try.f5 Rows.graphCanonUptoRow.domain false) (((Rows.OpenSpec.upto Rows.graphCanonSpec).at F).post enc Try.prog Try.f5 false true false false) := by
  refine returnsInHanded_of_cond (C := Try.checked) (s := Rows.OpenSpec.upto Rows.graphCanonSpec) (k := Rows.uptoSmall) rfl own started (by kernel_rfl) Try.func5
    (OpenSpec.witness (enc := enc) (C := Try.checked) (s := Rows.OpenSpec.upto Rows.graphCanonSpec) (k := Rows.uptoSmall) rfl false ⟨#[], #[.agg #[.slice none 0 0, .slice none 0 0], .int .i64 0, .agg #[.int .i64 0, .int .i64 0, .int .i64 0, .int .i64 0, .int .u64 0, .int .i64 0, .int .i64 0, .int .u64 0]], []⟩ 8 (by kernel_rfl) (by kernel_rfl) (by kernel_rfl)
      (x := ([.agg [.nil, .nil], .lit (.int .i64 0), .agg [.lit (.int .i64 0), .lit (.int .i64 0), .lit (.int .i64 0), .lit (.int .i64 0), .lit (.int .u64 0), .agg [.lit (.int .i64 0), .lit (.int .i64 0), .lit (.int .u64 0)]]], [], [])) (by kernel_rfl) rfl (by kernel_rfl)) ?_
  intro W base args ds gs before hval hW _ hk _
  exact contract H enc W base args ds gs before hval hW hk

set_option maxRecDepth 100000 in
theorem over : Rows.graphCanonUptoRow.holds Try.pinned (Rows.OpenSpec.upto Rows.graphCanonSpec) :=
  OpenClaim.holds_of_cond 5 Try.f5 rfl rfl rfl rfl rfl rfl rfl ⟨rfl, rfl, rfl, rfl, rfl⟩ rfl rfl rfl rfl rfl (by kernel_rfl) Try.func5 (by kernel_rfl)
    (of_decide_eq_true (by kernel_rfl)) (by unfold Func.isWrapper; first | (rw [if_pos (by decide +kernel)]; kernel_rfl) | (rw [if_neg (by decide +kernel)]; exact ⟨rfl, rfl⟩))
    (fun os started H enc _ F => lifted os started H enc F)

theorem proved : Rows.GraphCanonUptoSaid :=
  over
#print axioms proved
end Go.Proofs.Ytlocllcijncllaa.LGraphCanon
