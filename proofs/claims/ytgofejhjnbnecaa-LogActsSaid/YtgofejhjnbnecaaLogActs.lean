/- The statement LogActs is proved for every input, from contracts of the functions that it calls; no condition is added. -/
import Derived.Test.YtgofejhjnbnecaaEn10
import Derived.BigQuiet
namespace Go.Proofs.Ytgofejhjnbnecaa.LLogActs
open Go.Joins Go.ChangeShapes Go.Shelf Go.Maps Go.WideShapes Go.ChangeAt Go.RowKit Go.Deep
set_option linter.unusedVariables false
set_option linter.unusedSimpArgs false

set_option maxRecDepth 100000 in
set_option maxHeartbeats 4000000 in
theorem walk (v r : Value) (xs : List Ent) (L : List (List Ent)) (z1 z2 most : Int) (w : World) (hx : Sl w v xs) (hL : Rw w r L) (hk : ∀ x ∈ xs, OkE x) (hb : xs.length ≤ 8796093021952) :
    Calls Try.prog 3 #[.agg #[v, .int .u64 z1, .int .i64 z2, .int .i64 most, r]] w (fun e w' => e = .returned (.bool true) ∧ Up w w') := by
  have h1 := Lib.hid (fun w' (k : Up w w') => add_any v xs (z1, z2) most w' (hx.up k))
  have h2 := Lib.hid (fun w' (k : Up w w') => radd_any v xs (z1, z2) most w' (hx.up k))
  have h3 := Lib.hid (fun w' (k : Up w w') => first_any v xs w' (hx.up k) (by omega))
  have h4 := Lib.hid (fun w' (k : Up w w') => rfirst_any v xs w' (hx.up k) (by omega))
  have h5 := Lib.hid (fun w' (k : Up w w') => next_any r L w' (hL.up k))
  have h6 := Lib.hid (fun w' (k : Up w w') => rnext_any r L w' (hL.up k))
  have h7 := Lib.hid (fun w' (k : Up w w') => once_any v xs w' (hx.up k) hk (by omega))
  have h8 := Lib.hid (fun w' (k : Up w w') => ronce_any v xs w' (hx.up k) (by omega))
  have h9 := Lib.hid (fun w' (k : Up w w') => many_any r L w' (hL.up k))
  have h10 := Lib.hid (fun w' (k : Up w w') => rmany_any r L w' (hL.up k))
  have hs := Lib.hid (fun (P : List Ent) (x y : Value) (w' : World) (h : Sl w' x P) (k : Sl w' y P) => (by
    have := same_any x y P P w' h k
    rwa [decide_eq_true rfl] at this : Calls Try.prog 17 #[x, y] w' fun e w'' => e = .returned (.bool true) ∧ Up w' w''))
  unfold FiPost at h3 h4
  unfold fdo at h5 h6
  generalize ads xs (z1, z2) most = P1 at *
  generalize ade xs most = e1 at *
  generalize xs.getD 0 (0, 0) = f at *
  generalize xs.tail = P2 at *
  generalize decide (xs ≠ []) = b1 at *
  generalize onc xs = P3 at *
  generalize (if fdn L 0 < L.length then (fdn L 0 : Nat) else 0 : Int) = i1 at *
  generalize decide (fdn L 0 < L.length) = b2 at *
  generalize mny L 0 = m1 at *
  obtain ⟨f1, f2⟩ := f
  have he := fun w' => eq_ent f1 f2 f1 f2 w'
  rw [show bE f1 f2 f1 f2 = true from by rw [bE_eq, decide_eq_true rfl]] at he
  obtain ⟨A, c, rfl, -⟩ := hx
  obtain ⟨B, d, rfl, -⟩ := hL
  generalize xs.length = n at *
  generalize L.length = m at *
  clear hk hb
  go_enter Try.func3, Try.ntmps3
  have U := Up.refl w
  go_wp2_with (fail)
  refine calls_at (fun V1 hV => ?_)
  have kv : Up w V1 := by rw [hV]; (repeat (first | with_reducible exact Up.refl _ | with_reducible refine Up.alloc ?_ _ | with_reducible refine Up.drew ?_))
  have D : Blk V1 (w.heap.size) 28 #[.slice A n c, .int .u64 z1, .int .i64 z2, .int .i64 most, .slice B m d] := by rw [hV]; (repeat (first | with_reducible exact Blk.new' _ (by simp) _ _ | with_reducible refine Blk.alloc ?_ _ | with_reducible refine Blk.drew ?_))
  have E : Blk V1 (w.heap.size + 1) 25 #[.int .u64 z1, .int .i64 z2] := by rw [hV]; (repeat (first | with_reducible exact Blk.new' _ (by simp) _ _ | with_reducible refine Blk.alloc ?_ _ | with_reducible refine Blk.drew ?_))
  clear hV
  replace U := U.trans kv
  clear kv
  refine (shown_any _).mono ?_
  rintro e w1 ⟨rfl, k1⟩
  replace D := D.up k1
  replace E := E.up k1
  replace U := U.trans k1
  clear k1
  (try clear Dc)
  have Dc := D.cell
  (try clear Ec)
  have Ec := E.cell
  go_wp2_with (fail)
  refine calls_at (fun V2 hV => ?_)
  have kv : Up w1 V2 := by rw [hV]; (repeat (first | with_reducible exact Up.refl _ | with_reducible refine Up.alloc ?_ _ | with_reducible refine Up.drew ?_))
  clear hV
  replace D := D.up kv
  replace E := E.up kv
  replace U := U.trans kv
  clear kv
  refine (h1.out _ U).mono ?_
  rintro e w2 ⟨x1, rfl, t1, k2⟩
  replace D := D.up k2
  replace E := E.up k2
  replace U := U.trans k2
  clear k2
  (try clear Dc)
  have Dc := D.cell
  (try clear Ec)
  have Ec := E.cell
  have H1 := Lib.hid t1
  obtain ⟨A1, c1, rfl, -⟩ := t1
  generalize P1.length = l1 at *
  go_wp2_with (fail)
  refine calls_at (fun V3 hV => ?_)
  have kv : Up w2 V3 := by rw [hV]; (repeat (first | with_reducible exact Up.refl _ | with_reducible refine Up.alloc ?_ _ | with_reducible refine Up.drew ?_))
  clear hV
  replace D := D.up kv
  replace E := E.up kv
  replace H1 := Lib.hid (H1.out.up kv)
  replace U := U.trans kv
  clear kv
  refine (h2.out _ U).mono ?_
  rintro e w3 ⟨x2, rfl, t2, k3⟩
  replace D := D.up k3
  replace E := E.up k3
  replace H1 := Lib.hid (H1.out.up k3)
  replace U := U.trans k3
  clear k3
  (try clear Dc)
  have Dc := D.cell
  (try clear Ec)
  have Ec := E.cell
  have H2 := Lib.hid t2
  obtain ⟨A2, c2, rfl, -⟩ := t2
  generalize P1.length = l2 at *
  go_wp2_with (fail)
  refine calls_at (fun V4 hV => ?_)
  have kv : Up w3 V4 := by rw [hV]; (repeat (first | with_reducible exact Up.refl _ | with_reducible refine Up.alloc ?_ _ | with_reducible refine Up.drew ?_))
  clear hV
  replace D := D.up kv
  replace E := E.up kv
  replace H1 := Lib.hid (H1.out.up kv)
  replace H2 := Lib.hid (H2.out.up kv)
  replace U := U.trans kv
  clear kv
  refine (h3.out _ U).mono ?_
  rintro e w4 ⟨x3, rfl, t3, k4⟩
  replace D := D.up k4
  replace E := E.up k4
  replace H1 := Lib.hid (H1.out.up k4)
  replace H2 := Lib.hid (H2.out.up k4)
  replace U := U.trans k4
  clear k4
  (try clear Dc)
  have Dc := D.cell
  (try clear Ec)
  have Ec := E.cell
  have H3 := Lib.hid t3
  obtain ⟨A3, c3, rfl, -⟩ := t3
  generalize P2.length = l3 at *
  go_wp2_with (fail)
  refine calls_at (fun V5 hV => ?_)
  have kv : Up w4 V5 := by rw [hV]; (repeat (first | with_reducible exact Up.refl _ | with_reducible refine Up.alloc ?_ _ | with_reducible refine Up.drew ?_))
  have G : Blk V5 (w4.heap.size) 25 #[.int .u64 f1, .int .i64 f2] := by rw [hV]; (repeat (first | with_reducible exact Blk.new' _ (by simp) _ _ | with_reducible refine Blk.alloc ?_ _ | with_reducible refine Blk.drew ?_))
  clear hV
  replace D := D.up kv
  replace E := E.up kv
  replace H1 := Lib.hid (H1.out.up kv)
  replace H2 := Lib.hid (H2.out.up kv)
  replace H3 := Lib.hid (H3.out.up kv)
  replace U := U.trans kv
  clear kv
  refine (h4.out _ U).mono ?_
  rintro e w5 ⟨x4, rfl, t4, k5⟩
  replace D := D.up k5
  replace E := E.up k5
  replace G := G.up k5
  replace H1 := Lib.hid (H1.out.up k5)
  replace H2 := Lib.hid (H2.out.up k5)
  replace H3 := Lib.hid (H3.out.up k5)
  replace U := U.trans k5
  clear k5
  (try clear Dc)
  have Dc := D.cell
  (try clear Ec)
  have Ec := E.cell
  (try clear Gc)
  have Gc := G.cell
  have H4 := Lib.hid t4
  obtain ⟨A4, c4, rfl, -⟩ := t4
  generalize P2.length = l4 at *
  go_wp2_with (fail)
  refine calls_at (fun V6 hV => ?_)
  have kv : Up w5 V6 := by rw [hV]; (repeat (first | with_reducible exact Up.refl _ | with_reducible refine Up.alloc ?_ _ | with_reducible refine Up.drew ?_))
  have G2 : Blk V6 (w5.heap.size) 25 #[.int .u64 f1, .int .i64 f2] := by rw [hV]; (repeat (first | with_reducible exact Blk.new' _ (by simp) _ _ | with_reducible refine Blk.alloc ?_ _ | with_reducible refine Blk.drew ?_))
  clear hV
  replace D := D.up kv
  replace E := E.up kv
  replace G := G.up kv
  replace H1 := Lib.hid (H1.out.up kv)
  replace H2 := Lib.hid (H2.out.up kv)
  replace H3 := Lib.hid (H3.out.up kv)
  replace H4 := Lib.hid (H4.out.up kv)
  replace U := U.trans kv
  clear kv
  refine (h5.out _ U).mono ?_
  rintro e w6 ⟨rfl, k6⟩
  replace D := D.up k6
  replace E := E.up k6
  replace G := G.up k6
  replace G2 := G2.up k6
  replace H1 := Lib.hid (H1.out.up k6)
  replace H2 := Lib.hid (H2.out.up k6)
  replace H3 := Lib.hid (H3.out.up k6)
  replace H4 := Lib.hid (H4.out.up k6)
  replace U := U.trans k6
  clear k6
  (try clear Dc)
  have Dc := D.cell
  (try clear Ec)
  have Ec := E.cell
  (try clear Gc)
  have Gc := G.cell
  (try clear G2c)
  have G2c := G2.cell
  go_wp2_with (fail)
  refine calls_at (fun V7 hV => ?_)
  have kv : Up w6 V7 := by rw [hV]; (repeat (first | with_reducible exact Up.refl _ | with_reducible refine Up.alloc ?_ _ | with_reducible refine Up.drew ?_))
  clear hV
  replace D := D.up kv
  replace E := E.up kv
  replace G := G.up kv
  replace G2 := G2.up kv
  replace H1 := Lib.hid (H1.out.up kv)
  replace H2 := Lib.hid (H2.out.up kv)
  replace H3 := Lib.hid (H3.out.up kv)
  replace H4 := Lib.hid (H4.out.up kv)
  replace U := U.trans kv
  clear kv
  refine (h6.out _ U).mono ?_
  rintro e w7 ⟨rfl, k7⟩
  replace D := D.up k7
  replace E := E.up k7
  replace G := G.up k7
  replace G2 := G2.up k7
  replace H1 := Lib.hid (H1.out.up k7)
  replace H2 := Lib.hid (H2.out.up k7)
  replace H3 := Lib.hid (H3.out.up k7)
  replace H4 := Lib.hid (H4.out.up k7)
  replace U := U.trans k7
  clear k7
  (try clear Dc)
  have Dc := D.cell
  (try clear Ec)
  have Ec := E.cell
  (try clear Gc)
  have Gc := G.cell
  (try clear G2c)
  have G2c := G2.cell
  go_wp2_with (fail)
  refine calls_at (fun V8 hV => ?_)
  have kv : Up w7 V8 := by rw [hV]; (repeat (first | with_reducible exact Up.refl _ | with_reducible refine Up.alloc ?_ _ | with_reducible refine Up.drew ?_))
  clear hV
  replace D := D.up kv
  replace E := E.up kv
  replace G := G.up kv
  replace G2 := G2.up kv
  replace H1 := Lib.hid (H1.out.up kv)
  replace H2 := Lib.hid (H2.out.up kv)
  replace H3 := Lib.hid (H3.out.up kv)
  replace H4 := Lib.hid (H4.out.up kv)
  replace U := U.trans kv
  clear kv
  refine (hs.out P1 _ _ _ H1.out H2.out).mono ?_
  rintro e w8 ⟨rfl, k8⟩
  replace D := D.up k8
  replace E := E.up k8
  replace G := G.up k8
  replace G2 := G2.up k8
  replace H1 := Lib.hid (H1.out.up k8)
  replace H2 := Lib.hid (H2.out.up k8)
  replace H3 := Lib.hid (H3.out.up k8)
  replace H4 := Lib.hid (H4.out.up k8)
  replace U := U.trans k8
  clear k8
  (try clear Dc)
  have Dc := D.cell
  (try clear Ec)
  have Ec := E.cell
  (try clear Gc)
  have Gc := G.cell
  (try clear G2c)
  have G2c := G2.cell
  clear H1 H2
  go_wp2_with (fail)
  refine calls_at (fun V9 hV => ?_)
  have kv : Up w8 V9 := by rw [hV]; (repeat (first | with_reducible exact Up.refl _ | with_reducible refine Up.alloc ?_ _ | with_reducible refine Up.drew ?_))
  clear hV
  replace D := D.up kv
  replace E := E.up kv
  replace G := G.up kv
  replace G2 := G2.up kv
  replace H3 := Lib.hid (H3.out.up kv)
  replace H4 := Lib.hid (H4.out.up kv)
  replace U := U.trans kv
  clear kv
  refine (hs.out P2 _ _ _ H3.out H4.out).mono ?_
  rintro e w9 ⟨rfl, k9⟩
  replace D := D.up k9
  replace E := E.up k9
  replace G := G.up k9
  replace G2 := G2.up k9
  replace H3 := Lib.hid (H3.out.up k9)
  replace H4 := Lib.hid (H4.out.up k9)
  replace U := U.trans k9
  clear k9
  (try clear Dc)
  have Dc := D.cell
  (try clear Ec)
  have Ec := E.cell
  (try clear Gc)
  have Gc := G.cell
  (try clear G2c)
  have G2c := G2.cell
  clear H3 H4
  go_wp2_with (fail)
  refine calls_at (fun V10 hV => ?_)
  have kv : Up w9 V10 := by rw [hV]; (repeat (first | with_reducible exact Up.refl _ | with_reducible refine Up.alloc ?_ _ | with_reducible refine Up.drew ?_))
  clear hV
  replace D := D.up kv
  replace E := E.up kv
  replace G := G.up kv
  replace G2 := G2.up kv
  replace U := U.trans kv
  clear kv
  refine (h7.out _ U).mono ?_
  rintro e w10 ⟨x5, rfl, t5, k10⟩
  replace D := D.up k10
  replace E := E.up k10
  replace G := G.up k10
  replace G2 := G2.up k10
  replace U := U.trans k10
  clear k10
  (try clear Dc)
  have Dc := D.cell
  (try clear Ec)
  have Ec := E.cell
  (try clear Gc)
  have Gc := G.cell
  (try clear G2c)
  have G2c := G2.cell
  have H5 := Lib.hid (Sl.of_lo t5)
  have t6 := H5.out
  obtain ⟨A5, c5, rfl, -⟩ := t6
  clear t5
  generalize P3.length = l5 at *
  go_wp2_with (fail)
  refine calls_at (fun V11 hV => ?_)
  have kv : Up w10 V11 := by rw [hV]; (repeat (first | with_reducible exact Up.refl _ | with_reducible refine Up.alloc ?_ _ | with_reducible refine Up.drew ?_))
  clear hV
  replace D := D.up kv
  replace E := E.up kv
  replace G := G.up kv
  replace G2 := G2.up kv
  replace H5 := Lib.hid (H5.out.up kv)
  replace U := U.trans kv
  clear kv
  refine (h8.out _ U).mono ?_
  rintro e w11 ⟨x6, rfl, t5, k11⟩
  replace D := D.up k11
  replace E := E.up k11
  replace G := G.up k11
  replace G2 := G2.up k11
  replace H5 := Lib.hid (H5.out.up k11)
  replace U := U.trans k11
  clear k11
  (try clear Dc)
  have Dc := D.cell
  (try clear Ec)
  have Ec := E.cell
  (try clear Gc)
  have Gc := G.cell
  (try clear G2c)
  have G2c := G2.cell
  have H6 := Lib.hid (Sl.of_lo t5)
  have t6 := H6.out
  obtain ⟨A6, c6, rfl, -⟩ := t6
  clear t5
  generalize P3.length = l6 at *
  go_wp2_with (fail)
  refine calls_at (fun V12 hV => ?_)
  have kv : Up w11 V12 := by rw [hV]; (repeat (first | with_reducible exact Up.refl _ | with_reducible refine Up.alloc ?_ _ | with_reducible refine Up.drew ?_))
  clear hV
  replace D := D.up kv
  replace E := E.up kv
  replace G := G.up kv
  replace G2 := G2.up kv
  replace H5 := Lib.hid (H5.out.up kv)
  replace H6 := Lib.hid (H6.out.up kv)
  replace U := U.trans kv
  clear kv
  refine (hs.out P3 _ _ _ H5.out H6.out).mono ?_
  rintro e w12 ⟨rfl, k12⟩
  replace D := D.up k12
  replace E := E.up k12
  replace G := G.up k12
  replace G2 := G2.up k12
  replace H5 := Lib.hid (H5.out.up k12)
  replace H6 := Lib.hid (H6.out.up k12)
  replace U := U.trans k12
  clear k12
  (try clear Dc)
  have Dc := D.cell
  (try clear Ec)
  have Ec := E.cell
  (try clear Gc)
  have Gc := G.cell
  (try clear G2c)
  have G2c := G2.cell
  clear H5 H6
  go_wp2_with (fail)
  refine calls_at (fun V13 hV => ?_)
  have kv : Up w12 V13 := by rw [hV]; (repeat (first | with_reducible exact Up.refl _ | with_reducible refine Up.alloc ?_ _ | with_reducible refine Up.drew ?_))
  clear hV
  replace D := D.up kv
  replace E := E.up kv
  replace G := G.up kv
  replace G2 := G2.up kv
  replace U := U.trans kv
  clear kv
  refine (h9.out _ U).mono ?_
  rintro e w13 ⟨rfl, k13⟩
  replace D := D.up k13
  replace E := E.up k13
  replace G := G.up k13
  replace G2 := G2.up k13
  replace U := U.trans k13
  clear k13
  (try clear Dc)
  have Dc := D.cell
  (try clear Ec)
  have Ec := E.cell
  (try clear Gc)
  have Gc := G.cell
  (try clear G2c)
  have G2c := G2.cell
  go_wp2_with (fail)
  refine (h10.out _ U).mono ?_
  rintro e w99 ⟨rfl, rfl⟩
  go_wp2
  go_ret
  exact ⟨rfl, U⟩

theorem cells : Try.prog.cellsOf 28 = 5 := by kernel_rfl
set_option maxRecDepth 100000 in
theorem opened {H : Type} {enc : TypeId × Value → H} {w : World} {r : Reach} {b0 : Nat} {v : Value} {d : DataW H} {p : List MemPlace} (hv : Value.okWide Try.prog w r b0 28 v) (h : DataW.Trod enc Try.prog w 0 (fun _ => true) true 28 v d p) :
    ∃ (u q : Value) (z : Ent) (i : Int) (xs : List Ent) (L : List (List Ent)), v = .agg #[u, .int .u64 z.1, .int .i64 z.2, .int .i64 i, q] ∧ Sl w u xs ∧ Rw w q L ∧ (∀ y ∈ xs, OkE y) ∧ (Light 28 d → xs.length ≤ 8796093021952) := by
  obtain ⟨⟨l⟩, rfl, hsz⟩ := okWide_struct Try.underlying28 hv
  match l, hsz.trans cells with
  | [c0, c1, c2, c3, c4], _ =>
    obtain ⟨fuel, hf⟩ := h
    obtain ⟨ys, n, _, hd, _, hlen, hg⟩ := DataW.trod_struct Try.underlying28 hf
    have f0 := hg 0 _ rfl
    have f1 := hg 1 _ rfl
    have f2 := hg 2 _ rfl
    have f3 := hg 3 _ rfl
    match ys, hlen with
    | [y0, y1, y2, y3], _ =>
      change DataW.trod enc Try.prog w 0 (fun _ => true) true n 22 (([c0, c1, c2, c3, c4].drop 0).take (Try.prog.cellsOf 22)) = some y0 at f0
      rw [cells_ents] at f0
      change DataW.trod enc Try.prog w 0 (fun _ => true) true n 25 (([c0, c1, c2, c3, c4].drop 1).take (Try.prog.cellsOf 25)) = some y1 at f1
      rw [cells_ent] at f1
      change DataW.trod enc Try.prog w 0 (fun _ => true) true n 3 (([c0, c1, c2, c3, c4].drop 3).take (Try.prog.cellsOf 3)) = some y2 at f2
      rw [cells_int] at f2
      change DataW.trod enc Try.prog w 0 (fun _ => true) true n 26 (([c0, c1, c2, c3, c4].drop 4).take (Try.prog.cellsOf 26)) = some y3 at f3
      rw [cells_rows] at f3
      obtain ⟨xs, s0, u0, b0, l0⟩ := ents_sl (v := c0) f0
      obtain ⟨z, hz, hok⟩ := ent_cells f1
      have hz : [c1, c2] = [.int .u64 z.1, .int .i64 z.2] := hz
      simp only [List.cons.injEq, and_true] at hz
      obtain ⟨rfl, rfl⟩ := hz
      obtain ⟨i, rfl, hi⟩ := int_at (v := c3) f2
      obtain ⟨L, s3, b3⟩ := rows_rw (v := c4) f3
      refine ⟨c0, c4, z, i, xs, L, rfl, s0, s3, u0, fun hl => l0 (fun m hm => hl m ?_)⟩
      obtain ⟨rfl, -⟩ := Prod.mk.injEq _ _ _ _ ▸ hd
      unfold DataW.weights
      rw [Try.underlying28]
      simp only [List.map_cons, DataW.weightsEach, List.mem_append]
      exact .inl hm

theorem own : ownKnob Try.prog.godebug = none := by kernel_rfl
set_option maxRecDepth 100000 in
theorem lifted (os : Os) (started : os.Started) (H : Type) (enc : TypeId × Value → H) :
    ReturnsInHanded {} Try.checked os 3 .any (Rows.logActsSpec.pre6 enc Try.prog Try.f3 Rows.logActsRow.domain false) (Rows.logActsSpec.post enc Try.prog Try.f3 false true false false) := by
  refine returnsInHanded_of_change_sized (C := Try.checked) own started (by kernel_rfl) Try.func3
    (ChangeSpec.witness6 (enc := enc) (C := Try.checked) false ⟨#[], #[.agg #[.slice none 0 0, .int .u64 0, .int .i64 0, .int .i64 0, .slice none 0 0]], []⟩ 8 (by kernel_rfl) (by kernel_rfl) (by kernel_rfl) (by kernel_rfl)) ?_
  intro W base args ds gs before hval0 hW hcnd hsz0 _
  have hval : ∀ (j : Nat) t v, Try.f3.params[j]? = some t → args[j]? = some v → Value.okWide Try.prog W .any base t v := hval0
  have hW' := hW
  obtain ⟨p, q, hA0, hV, rfl, hfz, hnd⟩ := hW
  have hA : DataW.TrodAll enc Try.prog W 0 (fun _ => true) true Try.f3.params.toList args.toList ds p := hA0
  rw [Try.params3] at hA hval
  obtain ⟨v0, vs0, d0, ds0, p0, q0, hargs, rfl, rfl, h0, r0⟩ := trodAll_cons hA
  obtain ⟨rfl, rfl, rfl⟩ := trodAll_nil r0
  obtain rfl : args = #[v0] := by cases args; simp_all
  obtain ⟨rfl, rfl⟩ := trodVars_none hV
  have l0 : Light 28 d0 := fun n hn => by
    have := List.all_eq_true.1 hsz0 n (DataW.weights_mem_each (j := 0) (t := 28) (d := d0) (by kernel_rfl) rfl n hn)
    simpa using this
  clear hsz0
  have h0k := h0
  obtain ⟨u, q, z, i, xs, L, rfl, s0, s1, u1, y0⟩ := opened (hval 0 28 v0 rfl rfl) h0
  clear hA0 hval0
  simp only [List.append_nil, List.nil_append] at hW'
  refine (walk u q xs L z.1 z.2 i W s0 s1 u1 (y0 l0)).mono fun e W' ⟨he, hg⟩ => ?_
  subst he
  exact ⟨_, rfl, post_below (pa := p0) (pv := []) hW' (fun _ _ _ => (trodAll_cons_mk (shut_bool Try.underlying4 _) trodAll_mk0))
    (fun sp hsp => by
      have t := (trodAll_cons_mk (trod_keeps (sp := sp) (by kernel_rfl) (of_decide_eq_true (by kernel_rfl)) h0k hg (fun x hx => hW'.lt x (by simp [hx])) (fun x hx => hsp x (by simp [hx]))) trodAll_mk0)
      simp only [List.append_nil, List.nil_append] at t
      exact t) (fun _ _ => rfl) (by simp)
    hg (ok_one (by kernel_rfl) rfl (okWide_bool_mk Try.underlying4 _))⟩

set_option maxRecDepth 100000 in
theorem over : Rows.logActsRow.holds Try.pinned (OpenSpec.ofChange Rows.logActsSpec) :=
  OpenClaim.holds_of_wide 3 Try.f3 rfl rfl rfl rfl rfl rfl rfl ⟨rfl, rfl, rfl, rfl, rfl⟩ rfl rfl rfl rfl rfl (by kernel_rfl) Try.func3 (by kernel_rfl)
    (of_decide_eq_true (by kernel_rfl)) (by unfold Func.isWrapper; first | (rw [if_pos (by decide +kernel)]; kernel_rfl) | (rw [if_neg (by decide +kernel)]; exact ⟨rfl, rfl⟩))
    (fun os started H enc _ => lifted os started H enc)

theorem proved : Rows.LogActsSaid :=
  over
#print axioms proved
end Go.Proofs.Ytgofejhjnbnecaa.LLogActs
