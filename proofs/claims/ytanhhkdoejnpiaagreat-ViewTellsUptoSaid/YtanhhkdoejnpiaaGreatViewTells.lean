/- ViewTells, of all memories, rows, graphs and numbers that a machine can hold: it tells true, and changes nothing that it was handed. -/
import Derived.Test.YtanhhkdoejnpiaaGreatOd
namespace Go.Proofs.YtanhhkdoejnpiaaGreat.LViewTells
open G
open Go.Joins Go.ChangeShapes Go.WideShapes Go.ChangeAt Go.RowKit Go.Deep Go.Shelf Go.Maps
set_option linter.unusedVariables false
set_option linter.unusedSimpArgs false

theorem k_of_sl {w : World} {v : Value} {xs : List Int} (h : Sl .u64 w v xs) : K.Sl w v xs := by
  obtain ⟨A, c, rfl⟩ := h.slice
  have hr := rd_sl h
  obtain ⟨A', c', e, h1, h2, h3, -⟩ := h
  cases e
  exact ⟨A, c, rfl, h1, h2, h3, hr⟩
theorem k_of_rw {w : World} {v : Value} {L : List (List Int)} (h : Rw .u64 w v L) : K.Rw w v L := by
  obtain ⟨A, c, rfl, -⟩ := h.slice
  have hat := fun j (hj : j < L.length) => h.at_ hj
  obtain ⟨us, A', c', e, h1, h2, h3, h4, h5⟩ := h
  cases e
  refine ⟨A, c, rfl, h1, h2, h3, fun q => ?_⟩
  obtain ⟨p, u, e1, hc, _⟩ := hat 0 q
  have hl := lt_of_cell hc
  rw [block_of_add] at hl
  refine ⟨p, e1, hl, fun j xs hj => ?_⟩
  have hjl : j < L.length := (List.getElem?_eq_some_iff.1 hj).1
  obtain ⟨p', u', e2, hc2, hs2⟩ := hat j hjl
  rw [e1] at e2
  cases e2
  refine ⟨u', hc2, ?_⟩
  have hx : L.getD j [] = xs := by simp [List.getD, hj]
  rw [hx] at hs2
  exact k_of_sl hs2
theorem grv_nil (V : World) : GrV V gr0 ([], []) := ⟨_, _, rfl, ⟨[], none, 0, rfl, Nat.le_refl _, Nat.zero_le _, fun _ => rfl, RV.nil _ _, rfl, fun j u xs h => by simp at h⟩, Rw.nil _ _⟩
theorem krw_nil (V : World) : K.Rw V (.slice none 0 0) [] := ⟨none, 0, rfl, Nat.le_refl _, Nat.zero_le _, fun _ => rfl, fun q => absurd q (by simp)⟩
theorem msame_put {g : Gr} {W : Nat} {s : Int} (P Q P2 Q2 : Addr) (c d c2 d2 : Nat) (V : World) (h1 : Sits V (putG g W s) P Q c d) (h2 : Sits V (putG g W s) P2 Q2 c2 d2) :
    Calls Tryz.prog 16 #[mev W P Q c d, mev W P2 Q2 c2 d2] V fun e w' => e = .returned (.bool true) ∧ Up V w' := by
  have h := Go.Proofs.YtanhhkdoejnpiaaGreat.rsame_any (putG g W s).ma (putG g W s).ma (some P) (some Q) (some P2) (some Q2) (putG g W s).n (putG g W s).n (putG g W s).n (putG g W s).n c d c2 d2 V h1.lies h2.lies
  rw [Ma.same_self, show (putG g W s).ma.N = ((putG g W s).n : Int) from rfl, show (putG g W s).n = W from mk_n _ _ _] at h
  exact h
theorem msame_nil (V : World) : Calls Tryz.prog 16 #[mem0, mem0] V fun e w' => e = .returned (.bool true) ∧ Up V w' := by
  have hl : Lies V ⟨0, [], []⟩ none none 0 0 0 0 := ⟨⟨rfl, fun h => absurd h (Nat.lt_irrefl 0)⟩, ⟨rfl, fun h => absurd h (Nat.lt_irrefl 0)⟩, Nat.zero_le _, Nat.zero_le _⟩
  have h := Go.Proofs.YtanhhkdoejnpiaaGreat.rsame_any ⟨0, [], []⟩ ⟨0, [], []⟩ none none none none 0 0 0 0 0 0 0 0 V hl hl
  rw [Ma.same_self] at h
  exact h
theorem cells_in : Tryz.prog.cellsOf 32 = 8 := by kernel_rfl
set_option maxRecDepth 100000 in
set_option maxHeartbeats 1000000 in
theorem in_cells {H : Type} {enc : TypeId × Value → H} {w : World} {fuel : Nat} {cs : List Value} {x : DataW H × List MemPlace} (h : DataW.trod enc Tryz.prog w 0 (fun _ => true) true fuel 32 cs = some x) :
    ∃ (N : Int) (A0 A1 : Option Addr) (n0 n1 q0 q1 : Nat) (xs ys : List Int) (v : Value) (L : List (List Int)) (u0 u1 : Value) (a : Gr) (x1 s1 : Int), cs = [.int .i64 N, .slice A0 n0 q0, .slice A1 n1 q1, v, u0, u1, .int .i64 x1, .int .i64 s1] ∧
      SlOk w A0 n0 q0 xs ∧ SlOk w A1 n1 q1 ys ∧ K.Rw w v L ∧ (∀ r ∈ L, ∀ y ∈ r, U64 y) ∧ GrV w (.agg #[u0, u1]) a ∧ (∀ n ∈ a.1, NdOk n) ∧ I64 x1 ∧ L.flatten.length + L.length + (a.2.flatten.length + a.2.length) ≤ Rows.uptoBulk x.1 := by
  obtain ⟨ys, n, _, hd, hcl, hlen, hg⟩ := DataW.trod_struct Tryz.underlying32 h
  rw [cells_in] at hcl
  match cs, hcl with
  | [c0, c1, c2, c3, c4, c5, c6, c7], _ =>
    have f0 := hg 0 _ rfl
    have f1 := hg 1 _ rfl
    have f2 := hg 2 _ rfl
    have f3 := hg 3 _ rfl
    have f4 := hg 4 _ rfl
    match ys, hlen with
    | [y0, y1, y2, y3, y4], _ =>
      change DataW.trod enc Tryz.prog w 0 (fun _ => true) true n 25 (([c0, c1, c2, c3, c4, c5, c6, c7].drop 0).take (Tryz.prog.cellsOf 25)) = some y0 at f0
      rw [cells_mem] at f0
      change DataW.trod enc Tryz.prog w 0 (fun _ => true) true n 26 (([c0, c1, c2, c3, c4, c5, c6, c7].drop 3).take (Tryz.prog.cellsOf 26)) = some y1 at f1
      rw [K.cells_rows] at f1
      change DataW.trod enc Tryz.prog w 0 (fun _ => true) true n 30 (([c0, c1, c2, c3, c4, c5, c6, c7].drop 4).take (Tryz.prog.cellsOf 30)) = some y2 at f2
      rw [cells_graph] at f2
      change DataW.trod enc Tryz.prog w 0 (fun _ => true) true n 3 (([c0, c1, c2, c3, c4, c5, c6, c7].drop 6).take (Tryz.prog.cellsOf 3)) = some y3 at f3
      rw [cells_int] at f3
      change DataW.trod enc Tryz.prog w 0 (fun _ => true) true n 3 (([c0, c1, c2, c3, c4, c5, c6, c7].drop 7).take (Tryz.prog.cellsOf 3)) = some y4 at f4
      rw [cells_int] at f4
      obtain ⟨N, A0, A1, n0, n1, q0, q1, zs, ws, rfl, rfl, rfl, -, h1, h2⟩ := mem_open (v0 := c0) (v1 := c1) (v2 := c2) f0
      obtain ⟨L, h3, h4, h5, -⟩ := K.rows_rw (v := c3) f1
      obtain ⟨u0, u1, a, e, h6, h7⟩ := graph_cells (cs := [c4, c5]) f2
      simp only [List.cons.injEq, and_true] at e
      obtain ⟨rfl, rfl⟩ := e
      obtain ⟨x1, rfl, h8⟩ := G.int_at (v := c6) f3
      obtain ⟨s1, rfl, -⟩ := G.int_at (v := c7) f4
      obtain ⟨d, p⟩ := x
      simp only [Prod.mk.injEq] at hd
      obtain ⟨rfl, -⟩ := hd
      refine ⟨N, A0, A1, n0, n1, q0, q1, zs, ws, c3, L, _, _, a, x1, s1, rfl, h1, h2, h3, h4, h6, h7.nd, h8, ?_⟩
      have := h7.st
      simp only [Rows.uptoBulk, List.map_cons, List.map_nil, Rows.uptoBulkAll]
      omega
set_option maxRecDepth 100000 in
theorem in_at {H : Type} {enc : TypeId × Value → H} {w : World} {r : Reach} {b0 : Nat} {v : Value} {d : DataW H} {p : List MemPlace} (hv : Value.okWide Tryz.prog w r b0 32 v) (h : DataW.Trod enc Tryz.prog w 0 (fun _ => true) true 32 v d p) :
    ∃ (N : Int) (A0 A1 : Option Addr) (n0 n1 q0 q1 : Nat) (xs ys : List Int) (vr : Value) (L : List (List Int)) (u0 u1 : Value) (a : Gr) (x1 s1 : Int), v = .agg #[.int .i64 N, .slice A0 n0 q0, .slice A1 n1 q1, vr, u0, u1, .int .i64 x1, .int .i64 s1] ∧
      SlOk w A0 n0 q0 xs ∧ SlOk w A1 n1 q1 ys ∧ K.Rw w vr L ∧ (∀ r ∈ L, ∀ y ∈ r, U64 y) ∧ GrV w (.agg #[u0, u1]) a ∧ (∀ n ∈ a.1, NdOk n) ∧ I64 x1 ∧ L.flatten.length + L.length + (a.2.flatten.length + a.2.length) ≤ Rows.uptoBulk d := by
  obtain ⟨⟨l⟩, rfl, hsz⟩ := okWide_struct Tryz.underlying32 hv
  obtain ⟨fuel, hf⟩ := h
  obtain ⟨N, A0, A1, n0, n1, q0, q1, zs, ws, vr, L, u0, u1, a, x1, s1, e, r⟩ := in_cells (x := (d, p)) (cs := l) hf
  subst e
  exact ⟨N, A0, A1, n0, n1, q0, q1, zs, ws, vr, L, u0, u1, a, x1, s1, rfl, r⟩
theorem rall_let (v : Value) (L : List (List Int)) (w : World) (hL : K.Rw w v L) (hN : L.flatten.length ≤ 1048576) :
    Calls Tryz.prog 26 #[v] w fun e w' => ∃ A c, e = .returned (.slice A (K.unq L.flatten).length c) ∧ Sl .u64 w' (.slice A (K.unq L.flatten).length c) (K.unq L.flatten) ∧ Up w w' :=
  (K.rall_any v L w hL (by omega)).mono fun e w' h => by
    obtain ⟨u, rfl, hlo, k⟩ := h
    have hs := sl_lo hlo
    obtain ⟨A, c, rfl⟩ := hs.slice
    exact ⟨A, c, rfl, hs, k⟩
theorem few_is {N : Int} {n0 n1 : Nat} {L : List (List Int)} (h : fewb N n0 n1 L = true) : ∃ n : Nat, N = n ∧ n0 = n ∧ n1 = n ∧ 16 ≤ n ∧ n ≤ 200 ∧ L.length ≤ 10 := by
  unfold fewb rt at h
  simp only [Bool.and_eq_true, decide_eq_true_eq] at h
  exact ⟨n0, by omega, rfl, by omega, by omega, by omega, h.2.2.1⟩
set_option maxRecDepth 100000 in
set_option maxHeartbeats 16000000 in
theorem walk_no1 (N : Int) (A0 A1 : Option Addr) (n0 n1 q0 q1 : Nat) (v u0 u1 : Value) (L : List (List Int)) (a : Gr) (x1 s1 : Int) (w : World) (hL : K.Rw w v L) (hN : L.flatten.length ≤ 1048576) (ha : GrV w (.agg #[u0, u1]) a) (hia : ∀ n ∈ a.1, NdOk n) (hf : fewb N n0 n1 L = false) :
    Calls Tryz.prog 3 #[.agg #[.int .i64 N, .slice A0 n0 q0, .slice A1 n1 q1, v, u0, u1, .int .i64 x1, .int .i64 s1]] w fun e w' => e = .returned (.bool true) ∧ Up w w' := by
  have HF := Lib.hid (fun V (k : Up w V) => by
    have h := few_any N A0 A1 n0 n1 q0 q1 v L V (hL.up k) hN
    rw [hf] at h
    exact h)
  obtain ⟨Aa, ca, Ba, da, e, ma1, ma2⟩ := ha.form
  have e := congrArg (fun v => match v with | Value.agg l => l.toList | _ => []) e
  simp only [List.cons.injEq, and_true] at e
  obtain ⟨rfl, rfl⟩ := e
  have HSH := Lib.hid shown_any
  have HSA := Lib.hid (fun W' u (hu : GrV W' u a) => small_any u a W' hu (fun n hn => (hia n hn).1))
  obtain ⟨A, c, rfl, -⟩ := hL
  have sa0 := ha
  clear hN hf ha hia HSA
  generalize L.length = n at *
  generalize a.1.length = na at *
  generalize a.2.length = sa at *
  go_enter Tryz.func3, Tryz.ntmps3
  go_wp2_with (fail)
  refine calls_at (fun V1 hV => ?_)
  have kv : Up w V1 := by rw [hV]; (repeat (first | with_reducible exact Up.refl _ | with_reducible refine Up.alloc ?_ _ | with_reducible refine Up.drew ?_ | refine Up.setCell ?_ (by simp <;> omega) _))
  have bSv : Blk V1 (w.heap.size) 32 #[.int .i64 N, .slice A0 n0 q0, .slice A1 n1 q1, .slice A n c, .slice Aa na ca, .slice Ba sa da, .int .i64 x1, .int .i64 s1] := by rw [hV]; (repeat (first | with_reducible exact Blk.new' _ (by simp) _ _ | with_reducible refine Blk.alloc ?_ _ | with_reducible refine Blk.drew ?_ | refine Blk.far ?_ (by simp <;> omega) _))
  have bMv : Blk V1 (w.heap.size + 1) 25 #[.int .i64 N, .slice A0 n0 q0, .slice A1 n1 q1] := by rw [hV]; (repeat (first | with_reducible exact Blk.new' _ (by simp) _ _ | with_reducible refine Blk.alloc ?_ _ | with_reducible refine Blk.drew ?_ | refine Blk.far ?_ (by simp <;> omega) _))
  have bGv : Blk V1 (w.heap.size + 1 + 1) 30 #[.slice Aa na ca, .slice Ba sa da] := by rw [hV]; (repeat (first | with_reducible exact Blk.new' _ (by simp) _ _ | with_reducible refine Blk.alloc ?_ _ | with_reducible refine Blk.drew ?_ | refine Blk.far ?_ (by simp <;> omega) _))
  have Uv : Up w V1 := kv
  have sav := sa0.up kv
  clear hV kv sa0
  refine (HSH.out V1).mono ?_
  rintro e w1 ⟨rfl, k1⟩
  have bS1 := bSv.up k1
  have bM1 := bMv.up k1
  have bG1 := bGv.up k1
  have U1 := Uv.trans k1
  have sa1 := sav.up k1
  clear k1 Uv bSv bMv bGv sav
  have bS1c := bS1.cell
  have bS1f := bS1.frozen
  have bS1l := bS1.lt
  have bM1c := bM1.cell
  have bM1f := bM1.frozen
  have bM1l := bM1.lt
  have bG1c := bG1.cell
  have bG1f := bG1.frozen
  have bG1l := bG1.lt
  go_wp2_with (fail)
  refine calls_at (fun V2 hV => ?_)
  have kv : Up w1 V2 := by rw [hV]; (repeat (first | with_reducible exact Up.refl _ | with_reducible refine Up.alloc ?_ _ | with_reducible refine Up.drew ?_ | refine Up.setCell ?_ (by simp <;> omega) _))
  have bSv := bS1.up kv
  have bMv := bM1.up kv
  have bGv := bG1.up kv
  have Uv : Up w V2 := U1.trans kv
  have sav := sa1.up kv
  clear hV kv bS1 bS1c bS1f bS1l bM1 bM1c bM1f bM1l bG1 bG1c bG1f bG1l U1 sa1
  refine (HF.out V2 Uv).mono ?_
  rintro e w2 ⟨rfl, k2⟩
  have bS2 := bSv.up k2
  have bM2 := bMv.up k2
  have bG2 := bGv.up k2
  have U2 := Uv.trans k2
  have sa2 := sav.up k2
  clear k2 Uv bSv bMv bGv sav
  have bS2c := bS2.cell
  have bS2f := bS2.frozen
  have bS2l := bS2.lt
  have bM2c := bM2.cell
  have bM2f := bM2.frozen
  have bM2l := bM2.lt
  have bG2c := bG2.cell
  have bG2f := bG2.frozen
  have bG2l := bG2.lt
  go_wp2
  go_ret
  refine ⟨rfl, ?_⟩
  (repeat (first | with_reducible exact U2 | with_reducible refine Up.alloc ?_ _ | with_reducible refine Up.drew ?_ | refine Up.setCell ?_ (by simp <;> omega) _))
set_option maxRecDepth 100000 in
set_option maxHeartbeats 16000000 in
theorem walk_no2 (N : Int) (A0 A1 : Option Addr) (n0 n1 q0 q1 : Nat) (v u0 u1 : Value) (L : List (List Int)) (a : Gr) (x1 s1 : Int) (w : World) (hL : K.Rw w v L) (hN : L.flatten.length ≤ 1048576) (ha : GrV w (.agg #[u0, u1]) a) (hia : ∀ n ∈ a.1, NdOk n) (hf : fewb N n0 n1 L = true) (hq : smallb a = false ∨ (smallb a = true ∧ 400 < x1 ∧ x1 ≤ 4096)) :
    Calls Tryz.prog 3 #[.agg #[.int .i64 N, .slice A0 n0 q0, .slice A1 n1 q1, v, u0, u1, .int .i64 x1, .int .i64 s1]] w fun e w' => e = .returned (.bool true) ∧ Up w w' := by
  have HF := Lib.hid (fun V (k : Up w V) => by
    have h := few_any N A0 A1 n0 n1 q0 q1 v L V (hL.up k) hN
    rw [hf] at h
    exact h)
  obtain ⟨Aa, ca, Ba, da, e, ma1, ma2⟩ := ha.form
  have e := congrArg (fun v => match v with | Value.agg l => l.toList | _ => []) e
  simp only [List.cons.injEq, and_true] at e
  obtain ⟨rfl, rfl⟩ := e
  have HSH := Lib.hid shown_any
  have HSA := Lib.hid (fun W' u (hu : GrV W' u a) => small_any u a W' hu (fun n hn => (hia n hn).1))
  obtain ⟨A, c, rfl, -⟩ := hL
  have sa0 := ha
  clear hN hf ha hia
  generalize L.length = n at *
  rcases hq with hq | ⟨hq, hw1, hw2⟩
  · rw [hq] at HSA
    clear hq
    generalize a.1.length = na at *
    generalize a.2.length = sa at *
    go_enter Tryz.func3, Tryz.ntmps3
    go_wp2_with (fail)
    refine calls_at (fun V1 hV => ?_)
    have kv : Up w V1 := by rw [hV]; (repeat (first | with_reducible exact Up.refl _ | with_reducible refine Up.alloc ?_ _ | with_reducible refine Up.drew ?_ | refine Up.setCell ?_ (by simp <;> omega) _))
    have bSv : Blk V1 (w.heap.size) 32 #[.int .i64 N, .slice A0 n0 q0, .slice A1 n1 q1, .slice A n c, .slice Aa na ca, .slice Ba sa da, .int .i64 x1, .int .i64 s1] := by rw [hV]; (repeat (first | with_reducible exact Blk.new' _ (by simp) _ _ | with_reducible refine Blk.alloc ?_ _ | with_reducible refine Blk.drew ?_ | refine Blk.far ?_ (by simp <;> omega) _))
    have bMv : Blk V1 (w.heap.size + 1) 25 #[.int .i64 N, .slice A0 n0 q0, .slice A1 n1 q1] := by rw [hV]; (repeat (first | with_reducible exact Blk.new' _ (by simp) _ _ | with_reducible refine Blk.alloc ?_ _ | with_reducible refine Blk.drew ?_ | refine Blk.far ?_ (by simp <;> omega) _))
    have bGv : Blk V1 (w.heap.size + 1 + 1) 30 #[.slice Aa na ca, .slice Ba sa da] := by rw [hV]; (repeat (first | with_reducible exact Blk.new' _ (by simp) _ _ | with_reducible refine Blk.alloc ?_ _ | with_reducible refine Blk.drew ?_ | refine Blk.far ?_ (by simp <;> omega) _))
    have Uv : Up w V1 := kv
    have sav := sa0.up kv
    clear hV kv sa0
    refine (HSH.out V1).mono ?_
    rintro e w1 ⟨rfl, k1⟩
    have bS1 := bSv.up k1
    have bM1 := bMv.up k1
    have bG1 := bGv.up k1
    have U1 := Uv.trans k1
    have sa1 := sav.up k1
    clear k1 Uv bSv bMv bGv sav
    have bS1c := bS1.cell
    have bS1f := bS1.frozen
    have bS1l := bS1.lt
    have bM1c := bM1.cell
    have bM1f := bM1.frozen
    have bM1l := bM1.lt
    have bG1c := bG1.cell
    have bG1f := bG1.frozen
    have bG1l := bG1.lt
    go_wp2_with (fail)
    refine calls_at (fun V2 hV => ?_)
    have kv : Up w1 V2 := by rw [hV]; (repeat (first | with_reducible exact Up.refl _ | with_reducible refine Up.alloc ?_ _ | with_reducible refine Up.drew ?_ | refine Up.setCell ?_ (by simp <;> omega) _))
    have bSv := bS1.up kv
    have bMv := bM1.up kv
    have bGv := bG1.up kv
    have Uv : Up w V2 := U1.trans kv
    have sav := sa1.up kv
    clear hV kv bS1 bS1c bS1f bS1l bM1 bM1c bM1f bM1l bG1 bG1c bG1f bG1l U1 sa1
    refine (HF.out V2 Uv).mono ?_
    rintro e w2 ⟨rfl, k2⟩
    have bS2 := bSv.up k2
    have bM2 := bMv.up k2
    have bG2 := bGv.up k2
    have U2 := Uv.trans k2
    have sa2 := sav.up k2
    clear k2 Uv bSv bMv bGv sav
    have bS2c := bS2.cell
    have bS2f := bS2.frozen
    have bS2l := bS2.lt
    have bM2c := bM2.cell
    have bM2f := bM2.frozen
    have bM2l := bM2.lt
    have bG2c := bG2.cell
    have bG2f := bG2.frozen
    have bG2l := bG2.lt
    go_wp2_with (fail)
    refine calls_at (fun V3 hV => ?_)
    have kv : Up w2 V3 := by rw [hV]; (repeat (first | with_reducible exact Up.refl _ | with_reducible refine Up.alloc ?_ _ | with_reducible refine Up.drew ?_ | refine Up.setCell ?_ (by simp <;> omega) _))
    have bSv := bS2.up kv
    have bMv := bM2.up kv
    have bGv := bG2.up kv
    have Uv : Up w V3 := U2.trans kv
    have sav := sa2.up kv
    clear hV kv bS2 bS2c bS2f bS2l bM2 bM2c bM2f bM2l bG2 bG2c bG2f bG2l U2 sa2
    refine (HSA.out V3 _ sav).mono ?_
    rintro e w3 ⟨rfl, k3⟩
    have bS3 := bSv.up k3
    have bM3 := bMv.up k3
    have bG3 := bGv.up k3
    have U3 := Uv.trans k3
    have sa3 := sav.up k3
    clear k3 Uv bSv bMv bGv sav
    have bS3c := bS3.cell
    have bS3f := bS3.frozen
    have bS3l := bS3.lt
    have bM3c := bM3.cell
    have bM3f := bM3.frozen
    have bM3l := bM3.lt
    have bG3c := bG3.cell
    have bG3f := bG3.frozen
    have bG3l := bG3.lt
    go_wp2
    go_ret
    refine ⟨rfl, ?_⟩
    (repeat (first | with_reducible exact U3 | with_reducible refine Up.alloc ?_ _ | with_reducible refine Up.drew ?_ | refine Up.setCell ?_ (by simp <;> omega) _))
  · rw [hq] at HSA
    have hc1 : decide (400 < x1) = true := decide_eq_true hw1
    have hc2 : decide (x1 > 400) = true := decide_eq_true hw1
    have hc3 : decide (x1 ≤ 4096) = true := decide_eq_true hw2
    clear hq hw1 hw2
    generalize a.1.length = na at *
    generalize a.2.length = sa at *
    go_enter Tryz.func3, Tryz.ntmps3
    go_wp2_with (fail)
    refine calls_at (fun V1 hV => ?_)
    have kv : Up w V1 := by rw [hV]; (repeat (first | with_reducible exact Up.refl _ | with_reducible refine Up.alloc ?_ _ | with_reducible refine Up.drew ?_ | refine Up.setCell ?_ (by simp <;> omega) _))
    have bSv : Blk V1 (w.heap.size) 32 #[.int .i64 N, .slice A0 n0 q0, .slice A1 n1 q1, .slice A n c, .slice Aa na ca, .slice Ba sa da, .int .i64 x1, .int .i64 s1] := by rw [hV]; (repeat (first | with_reducible exact Blk.new' _ (by simp) _ _ | with_reducible refine Blk.alloc ?_ _ | with_reducible refine Blk.drew ?_ | refine Blk.far ?_ (by simp <;> omega) _))
    have bMv : Blk V1 (w.heap.size + 1) 25 #[.int .i64 N, .slice A0 n0 q0, .slice A1 n1 q1] := by rw [hV]; (repeat (first | with_reducible exact Blk.new' _ (by simp) _ _ | with_reducible refine Blk.alloc ?_ _ | with_reducible refine Blk.drew ?_ | refine Blk.far ?_ (by simp <;> omega) _))
    have bGv : Blk V1 (w.heap.size + 1 + 1) 30 #[.slice Aa na ca, .slice Ba sa da] := by rw [hV]; (repeat (first | with_reducible exact Blk.new' _ (by simp) _ _ | with_reducible refine Blk.alloc ?_ _ | with_reducible refine Blk.drew ?_ | refine Blk.far ?_ (by simp <;> omega) _))
    have Uv : Up w V1 := kv
    have sav := sa0.up kv
    clear hV kv sa0
    refine (HSH.out V1).mono ?_
    rintro e w1 ⟨rfl, k1⟩
    have bS1 := bSv.up k1
    have bM1 := bMv.up k1
    have bG1 := bGv.up k1
    have U1 := Uv.trans k1
    have sa1 := sav.up k1
    clear k1 Uv bSv bMv bGv sav
    have bS1c := bS1.cell
    have bS1f := bS1.frozen
    have bS1l := bS1.lt
    have bM1c := bM1.cell
    have bM1f := bM1.frozen
    have bM1l := bM1.lt
    have bG1c := bG1.cell
    have bG1f := bG1.frozen
    have bG1l := bG1.lt
    go_wp2_with (fail)
    refine calls_at (fun V2 hV => ?_)
    have kv : Up w1 V2 := by rw [hV]; (repeat (first | with_reducible exact Up.refl _ | with_reducible refine Up.alloc ?_ _ | with_reducible refine Up.drew ?_ | refine Up.setCell ?_ (by simp <;> omega) _))
    have bSv := bS1.up kv
    have bMv := bM1.up kv
    have bGv := bG1.up kv
    have Uv : Up w V2 := U1.trans kv
    have sav := sa1.up kv
    clear hV kv bS1 bS1c bS1f bS1l bM1 bM1c bM1f bM1l bG1 bG1c bG1f bG1l U1 sa1
    refine (HF.out V2 Uv).mono ?_
    rintro e w2 ⟨rfl, k2⟩
    have bS2 := bSv.up k2
    have bM2 := bMv.up k2
    have bG2 := bGv.up k2
    have U2 := Uv.trans k2
    have sa2 := sav.up k2
    clear k2 Uv bSv bMv bGv sav
    have bS2c := bS2.cell
    have bS2f := bS2.frozen
    have bS2l := bS2.lt
    have bM2c := bM2.cell
    have bM2f := bM2.frozen
    have bM2l := bM2.lt
    have bG2c := bG2.cell
    have bG2f := bG2.frozen
    have bG2l := bG2.lt
    go_wp2_with (fail)
    refine calls_at (fun V3 hV => ?_)
    have kv : Up w2 V3 := by rw [hV]; (repeat (first | with_reducible exact Up.refl _ | with_reducible refine Up.alloc ?_ _ | with_reducible refine Up.drew ?_ | refine Up.setCell ?_ (by simp <;> omega) _))
    have bSv := bS2.up kv
    have bMv := bM2.up kv
    have bGv := bG2.up kv
    have Uv : Up w V3 := U2.trans kv
    have sav := sa2.up kv
    clear hV kv bS2 bS2c bS2f bS2l bM2 bM2c bM2f bM2l bG2 bG2c bG2f bG2l U2 sa2
    refine (HSA.out V3 _ sav).mono ?_
    rintro e w3 ⟨rfl, k3⟩
    have bS3 := bSv.up k3
    have bM3 := bMv.up k3
    have bG3 := bGv.up k3
    have U3 := Uv.trans k3
    have sa3 := sav.up k3
    clear k3 Uv bSv bMv bGv sav
    have bS3c := bS3.cell
    have bS3f := bS3.frozen
    have bS3l := bS3.lt
    have bM3c := bM3.cell
    have bM3f := bM3.frozen
    have bM3l := bM3.lt
    have bG3c := bG3.cell
    have bG3f := bG3.frozen
    have bG3l := bG3.lt
    go_wp2
    go_ret
    refine ⟨rfl, ?_⟩
    (repeat (first | with_reducible exact U3 | with_reducible refine Up.alloc ?_ _ | with_reducible refine Up.drew ?_ | refine Up.setCell ?_ (by simp <;> omega) _))
set_option maxRecDepth 100000 in
set_option maxHeartbeats 16000000 in
theorem walk_yes (m : Me) (P Q : Addr) (c0 c1 : Nat) (v u0 u1 : Value) (L : List (List Int)) (a : Gr) (x1 s1 : Int) (w : World) (hm : Sits w m P Q c0 c1) (hwf : m.wf) (hL : K.Rw w v L) (hO : RwOk L) (hs : L.flatten.length + L.length ≤ 1048576) (hf : fewb m.n m.n m.n L = true)
    (ha : GrV w (.agg #[u0, u1]) a) (hia : ∀ n ∈ a.1, NdOk n) (hSa : Sm a) (sa : smallb a = true) (hx : I64 x1) (hw : ¬ (400 < x1 ∧ x1 ≤ 4096)) :
    Calls Tryz.prog 3 #[.agg #[.int .i64 m.n, .slice (some P) m.n c0, .slice (some Q) m.n c1, v, u0, u1, .int .i64 x1, .int .i64 s1]] w fun e w' => e = .returned (.bool true) ∧ Up w w' := by
  have HF := Lib.hid (fun V (k : Up w V) => by
    have h := few_any m.n (some P) (some Q) m.n m.n c0 c1 v L V (hL.up k) hO.l
    rw [hf] at h
    exact h)
  obtain ⟨Aa, ca, Ba, da, e, ma1, ma2⟩ := ha.form
  have e := congrArg (fun v => match v with | Value.agg l => l.toList | _ => []) e
  simp only [List.cons.injEq, and_true] at e
  obtain ⟨rfl, rfl⟩ := e
  have HSH := Lib.hid shown_any
  have HSA := Lib.hid (fun W' u (hu : GrV W' u a) => small_any u a W' hu (fun n hn => (hia n hn).1))
  have HOF := Lib.hid (fun V (k : Up w V) => of_any m P Q c0 c1 v L V (hm.up k) hwf (rw_of_k (hL.up k)) hO (by omega))
  have HRF := Lib.hid (fun V (k : Up w V) => rof_any m P Q c0 c1 v L V (hm.up k) hwf (rw_of_k (hL.up k)) hO (by omega))
  have HVW := Lib.hid (fun V (k : Up w V) => vwords_any m P Q c0 c1 v L V (hm.up k) hwf (rw_of_k (hL.up k)) hO)
  have HVR := Lib.hid (fun V (k : Up w V) => rvwords_any m P Q c0 c1 v L V (hm.up k) hwf (rw_of_k (hL.up k)) hO)
  have HAL := Lib.hid (fun V u (k : Up w V) (hu : GrV V u a) => alike_any m P Q c0 c1 v L u a V (hm.up k) hwf (rw_of_k (hL.up k)) hO (by omega) hu hSa.rg hSa.n hSa.fit)
  have HAR := Lib.hid (fun V u (k : Up w V) (hu : GrV V u a) => ralike_any m P Q c0 c1 v L u a V (hm.up k) hwf (rw_of_k (hL.up k)) hO (by omega) hu hSa.rg hSa.n hSa.fit)
  rw [sa] at HSA
  obtain ⟨A, c, rfl, -⟩ := hL
  have HSG := Lib.hid (fun V u z (hu : GrV V u (ofG m L)) (hz : GrV V z (ofG m L)) => by
    have h := G.rsame_any u z (ofG m L) (ofG m L) V hu hz
    rw [decide_eq_true rfl] at h
    exact h)
  have HSG0 := Lib.hid (fun V => by
    have h := G.rsame_any gr0 gr0 ([], []) ([], []) V (grv_nil V) (grv_nil V)
    rw [decide_eq_true rfl] at h
    exact h)
  have HMM0 := Lib.hid msame_nil
  have HRR0 := Lib.hid (fun V => by
    have h := K.rrows_any (.slice none 0 0) (.slice none 0 0) [] [] V (krw_nil V) (krw_nil V)
    rw [decide_eq_true rfl] at h
    exact h)
  obtain ⟨bb, hbb⟩ : ∃ bb, (ofB m L && decide (ofG m L = canon a)) = bb := ⟨_, rfl⟩
  rw [hbb] at HAL HAR
  have hbq : (bb == bb) = true := by simp
  generalize m.ows (m.rch L.flatten) = yy at *
  have sa0 := ha
  have key : ∀ ob, ofB m L = ob → Calls Tryz.prog 3 #[.agg #[.int .i64 m.n, .slice (some P) m.n c0, .slice (some Q) m.n c1, .slice A L.length c, .slice Aa a.1.length ca, .slice Ba a.2.length da, .int .i64 x1, .int .i64 s1]] w fun e w' => e = .returned (.bool true) ∧ Up w w' := by
    intro ob hob
    rw [hob] at HOF HRF
    clear hbb hob hO hm hwf hf hs
    by_cases hp : pte a x1 s1 = 0
    · obtain ⟨z1, z2, z3, z4⟩ := pte_0 hp
      have hc1 : decide (400 < x1) = false := decide_eq_false (by omega)
      have hc2 : decide (x1 > 400) = false := decide_eq_false (by omega)
      obtain ⟨W4, rfl⟩ : ∃ W : Nat, x1 = W := ⟨x1.toNat, by omega⟩
      have HPT := Lib.hid (fun V u hu => put_yes hSa hp rfl V u hu)
      have HRP := Lib.hid (fun V u hu => rput_yes hSa hp rfl V u hu)
      have HMM := Lib.hid (fun P Q P2 Q2 c d c2 d2 V (h1 : Sits V (putG a W4 s1) P Q c d) (h2 : Sits V (putG a W4 s1) P2 Q2 c2 d2) => msame_put P Q P2 Q2 c d c2 d2 V h1 h2)
      have HRR := Lib.hid (fun V u z (hu : Rw .u64 V u (putR a s1)) (hz : Rw .u64 V z (putR a s1)) => by
        have h := K.rrows_any u z (putR a s1) (putR a s1) V (k_of_rw hu) (k_of_rw hz)
        rw [decide_eq_true rfl] at h
        exact h)
      clear ha hia hSa sa hx hw hp z1 z2 z3 z4 HRR0 HMM0
      cases ob
      · have HOG : Hid (∀ V, Up w V → Calls Tryz.prog 11 #[mev m.n P Q c0 c1, .slice A L.length c] V fun e w' => e = .returned (.tuple #[gr0, .int .i64 10]) ∧ Up V w') := Lib.hid (fun V k => (HOF.out V k).mono fun e w' h => by
          rw [if_neg (by decide)] at h
          exact h)
        have HRG : Hid (∀ V, Up w V → Calls Tryz.prog 12 #[mev m.n P Q c0 c1, .slice A L.length c] V fun e w' => e = .returned (.tuple #[gr0, .int .i64 10]) ∧ Up V w') := Lib.hid (fun V k => (HRF.out V k).mono fun e w' h => by
          rw [if_neg (by decide)] at h
          exact h)
        clear HOF HRF HSG
        generalize L.length = ln at *
        generalize a.1.length = na at *
        generalize a.2.length = sa at *
        go_enter Tryz.func3, Tryz.ntmps3
        go_wp2_with (fail)
        refine calls_at (fun V1 hV => ?_)
        have kv : Up w V1 := by rw [hV]; (repeat (first | with_reducible exact Up.refl _ | with_reducible refine Up.alloc ?_ _ | with_reducible refine Up.drew ?_ | refine Up.setCell ?_ (by simp <;> omega) _))
        have bSv : Blk V1 (w.heap.size) 32 #[.int .i64 m.n, .slice (some P) m.n c0, .slice (some Q) m.n c1, .slice A ln c, .slice Aa na ca, .slice Ba sa da, .int .i64 W4, .int .i64 s1] := by rw [hV]; (repeat (first | with_reducible exact Blk.new' _ (by simp) _ _ | with_reducible refine Blk.alloc ?_ _ | with_reducible refine Blk.drew ?_ | refine Blk.far ?_ (by simp <;> omega) _))
        have bMv : Blk V1 (w.heap.size + 1) 25 #[.int .i64 m.n, .slice (some P) m.n c0, .slice (some Q) m.n c1] := by rw [hV]; (repeat (first | with_reducible exact Blk.new' _ (by simp) _ _ | with_reducible refine Blk.alloc ?_ _ | with_reducible refine Blk.drew ?_ | refine Blk.far ?_ (by simp <;> omega) _))
        have bGv : Blk V1 (w.heap.size + 1 + 1) 30 #[.slice Aa na ca, .slice Ba sa da] := by rw [hV]; (repeat (first | with_reducible exact Blk.new' _ (by simp) _ _ | with_reducible refine Blk.alloc ?_ _ | with_reducible refine Blk.drew ?_ | refine Blk.far ?_ (by simp <;> omega) _))
        have Uv : Up w V1 := kv
        have sav := sa0.up kv
        clear hV kv sa0
        refine (HSH.out V1).mono ?_
        rintro e w1 ⟨rfl, k1⟩
        have bS1 := bSv.up k1
        have bM1 := bMv.up k1
        have bG1 := bGv.up k1
        have U1 := Uv.trans k1
        have sa1 := sav.up k1
        clear k1 Uv bSv bMv bGv sav
        have bS1c := bS1.cell
        have bS1f := bS1.frozen
        have bS1l := bS1.lt
        have bM1c := bM1.cell
        have bM1f := bM1.frozen
        have bM1l := bM1.lt
        have bG1c := bG1.cell
        have bG1f := bG1.frozen
        have bG1l := bG1.lt
        go_wp2_with (fail)
        refine calls_at (fun V2 hV => ?_)
        have kv : Up w1 V2 := by rw [hV]; (repeat (first | with_reducible exact Up.refl _ | with_reducible refine Up.alloc ?_ _ | with_reducible refine Up.drew ?_ | refine Up.setCell ?_ (by simp <;> omega) _))
        have bSv := bS1.up kv
        have bMv := bM1.up kv
        have bGv := bG1.up kv
        have Uv : Up w V2 := U1.trans kv
        have sav := sa1.up kv
        clear hV kv bS1 bS1c bS1f bS1l bM1 bM1c bM1f bM1l bG1 bG1c bG1f bG1l U1 sa1
        refine (HF.out V2 Uv).mono ?_
        rintro e w2 ⟨rfl, k2⟩
        have bS2 := bSv.up k2
        have bM2 := bMv.up k2
        have bG2 := bGv.up k2
        have U2 := Uv.trans k2
        have sa2 := sav.up k2
        clear k2 Uv bSv bMv bGv sav
        have bS2c := bS2.cell
        have bS2f := bS2.frozen
        have bS2l := bS2.lt
        have bM2c := bM2.cell
        have bM2f := bM2.frozen
        have bM2l := bM2.lt
        have bG2c := bG2.cell
        have bG2f := bG2.frozen
        have bG2l := bG2.lt
        go_wp2_with (fail)
        refine calls_at (fun V3 hV => ?_)
        have kv : Up w2 V3 := by rw [hV]; (repeat (first | with_reducible exact Up.refl _ | with_reducible refine Up.alloc ?_ _ | with_reducible refine Up.drew ?_ | refine Up.setCell ?_ (by simp <;> omega) _))
        have bSv := bS2.up kv
        have bMv := bM2.up kv
        have bGv := bG2.up kv
        have Uv : Up w V3 := U2.trans kv
        have sav := sa2.up kv
        clear hV kv bS2 bS2c bS2f bS2l bM2 bM2c bM2f bM2l bG2 bG2c bG2f bG2l U2 sa2
        refine (HSA.out V3 _ sav).mono ?_
        rintro e w3 ⟨rfl, k3⟩
        have bS3 := bSv.up k3
        have bM3 := bMv.up k3
        have bG3 := bGv.up k3
        have U3 := Uv.trans k3
        have sa3 := sav.up k3
        clear k3 Uv bSv bMv bGv sav
        have bS3c := bS3.cell
        have bS3f := bS3.frozen
        have bS3l := bS3.lt
        have bM3c := bM3.cell
        have bM3f := bM3.frozen
        have bM3l := bM3.lt
        have bG3c := bG3.cell
        have bG3f := bG3.frozen
        have bG3l := bG3.lt
        go_wp2_with (fail)
        refine calls_at (fun V4 hV => ?_)
        have kv : Up w3 V4 := by rw [hV]; (repeat (first | with_reducible exact Up.refl _ | with_reducible refine Up.alloc ?_ _ | with_reducible refine Up.drew ?_ | refine Up.setCell ?_ (by simp <;> omega) _))
        have bSv := bS3.up kv
        have bMv := bM3.up kv
        have bGv := bG3.up kv
        have Uv : Up w V4 := U3.trans kv
        have sav := sa3.up kv
        clear hV kv bS3 bS3c bS3f bS3l bM3 bM3c bM3f bM3l bG3 bG3c bG3f bG3l U3 sa3
        refine (HOG.out V4 Uv).mono ?_
        rintro e w4 ⟨rfl, k4⟩
        have bS4 := bSv.up k4
        have bM4 := bMv.up k4
        have bG4 := bGv.up k4
        have U4 := Uv.trans k4
        have sa4 := sav.up k4
        clear k4 Uv bSv bMv bGv sav
        have bS4c := bS4.cell
        have bS4f := bS4.frozen
        have bS4l := bS4.lt
        have bM4c := bM4.cell
        have bM4f := bM4.frozen
        have bM4l := bM4.lt
        have bG4c := bG4.cell
        have bG4f := bG4.frozen
        have bG4l := bG4.lt
        go_wp2_with (fail)
        refine calls_at (fun V5 hV => ?_)
        have kv : Up w4 V5 := by rw [hV]; (repeat (first | with_reducible exact Up.refl _ | with_reducible refine Up.alloc ?_ _ | with_reducible refine Up.drew ?_ | refine Up.setCell ?_ (by simp <;> omega) _))
        have bSv := bS4.up kv
        have bMv := bM4.up kv
        have bGv := bG4.up kv
        have bKv : Blk V5 (w4.heap.size) 30 #[.slice none 0 0, .slice none 0 0] := by rw [hV]; (repeat (first | with_reducible exact Blk.new' _ (by simp) _ _ | with_reducible refine Blk.alloc ?_ _ | with_reducible refine Blk.drew ?_ | refine Blk.far ?_ (by simp <;> omega) _))
        have Uv : Up w V5 := U4.trans kv
        have sav := sa4.up kv
        clear hV kv bS4 bS4c bS4f bS4l bM4 bM4c bM4f bM4l bG4 bG4c bG4f bG4l U4 sa4
        refine (HRG.out V5 Uv).mono ?_
        rintro e w5 ⟨rfl, k5⟩
        have bS5 := bSv.up k5
        have bM5 := bMv.up k5
        have bG5 := bGv.up k5
        have bK5 := bKv.up k5
        have U5 := Uv.trans k5
        have sa5 := sav.up k5
        clear k5 Uv bSv bMv bGv bKv sav
        have bS5c := bS5.cell
        have bS5f := bS5.frozen
        have bS5l := bS5.lt
        have bM5c := bM5.cell
        have bM5f := bM5.frozen
        have bM5l := bM5.lt
        have bG5c := bG5.cell
        have bG5f := bG5.frozen
        have bG5l := bG5.lt
        have bK5c := bK5.cell
        have bK5f := bK5.frozen
        have bK5l := bK5.lt
        go_wp2_with (fail)
        refine calls_at (fun V6 hV => ?_)
        have kv : Up w5 V6 := by rw [hV]; (repeat (first | with_reducible exact Up.refl _ | with_reducible refine Up.alloc ?_ _ | with_reducible refine Up.drew ?_ | refine Up.setCell ?_ (by simp <;> omega) _))
        have bSv := bS5.up kv
        have bMv := bM5.up kv
        have bGv := bG5.up kv
        have bKv := bK5.up kv
        have bLv : Blk V6 (w5.heap.size) 30 #[.slice none 0 0, .slice none 0 0] := by rw [hV]; (repeat (first | with_reducible exact Blk.new' _ (by simp) _ _ | with_reducible refine Blk.alloc ?_ _ | with_reducible refine Blk.drew ?_ | refine Blk.far ?_ (by simp <;> omega) _))
        have Uv : Up w V6 := U5.trans kv
        have sav := sa5.up kv
        clear hV kv bS5 bS5c bS5f bS5l bM5 bM5c bM5f bM5l bG5 bG5c bG5f bG5l bK5 bK5c bK5f bK5l U5 sa5
        refine (HPT.out V6 _ sav).mono ?_
        rintro e w6 ⟨PX, QX, cX, dX, BR, kR, rfl, sX6, HWFX, sR6, k6⟩
        have bS6 := bSv.up k6
        have bM6 := bMv.up k6
        have bG6 := bGv.up k6
        have bK6 := bKv.up k6
        have bL6 := bLv.up k6
        have U6 := Uv.trans k6
        have sa6 := sav.up k6
        clear k6 Uv bSv bMv bGv bKv bLv sav
        have bS6c := bS6.cell
        have bS6f := bS6.frozen
        have bS6l := bS6.lt
        have bM6c := bM6.cell
        have bM6f := bM6.frozen
        have bM6l := bM6.lt
        have bG6c := bG6.cell
        have bG6f := bG6.frozen
        have bG6l := bG6.lt
        have bK6c := bK6.cell
        have bK6f := bK6.frozen
        have bK6l := bK6.lt
        have bL6c := bL6.cell
        have bL6f := bL6.frozen
        have bL6l := bL6.lt
        go_wp2_with (fail)
        refine calls_at (fun V7 hV => ?_)
        have kv : Up w6 V7 := by rw [hV]; (repeat (first | with_reducible exact Up.refl _ | with_reducible refine Up.alloc ?_ _ | with_reducible refine Up.drew ?_ | refine Up.setCell ?_ (by simp <;> omega) _))
        have bSv := bS6.up kv
        have bMv := bM6.up kv
        have bGv := bG6.up kv
        have bKv := bK6.up kv
        have bLv := bL6.up kv
        have bXv : Blk V7 (w6.heap.size) 25 #[.int .i64 W4, .slice (some PX) W4 cX, .slice (some QX) W4 dX] := by rw [hV]; (repeat (first | with_reducible exact Blk.new' _ (by simp) _ _ | with_reducible refine Blk.alloc ?_ _ | with_reducible refine Blk.drew ?_ | refine Blk.far ?_ (by simp <;> omega) _))
        have Uv : Up w V7 := U6.trans kv
        have sav := sa6.up kv
        have sXv := sX6.up kv
        have sRv := sR6.up kv
        clear hV kv bS6 bS6c bS6f bS6l bM6 bM6c bM6f bM6l bG6 bG6c bG6f bG6l bK6 bK6c bK6f bK6l bL6 bL6c bL6f bL6l U6 sa6 sX6 sR6
        refine (HRP.out V7 _ sav).mono ?_
        rintro e w7 ⟨PY, QY, cY, dY, BT, kT, rfl, sY7, HWFY, sT7, k7⟩
        have bS7 := bSv.up k7
        have bM7 := bMv.up k7
        have bG7 := bGv.up k7
        have bK7 := bKv.up k7
        have bL7 := bLv.up k7
        have bX7 := bXv.up k7
        have U7 := Uv.trans k7
        have sa7 := sav.up k7
        have sX7 := sXv.up k7
        have sR7 := sRv.up k7
        clear k7 Uv bSv bMv bGv bKv bLv bXv sav sXv sRv
        have bS7c := bS7.cell
        have bS7f := bS7.frozen
        have bS7l := bS7.lt
        have bM7c := bM7.cell
        have bM7f := bM7.frozen
        have bM7l := bM7.lt
        have bG7c := bG7.cell
        have bG7f := bG7.frozen
        have bG7l := bG7.lt
        have bK7c := bK7.cell
        have bK7f := bK7.frozen
        have bK7l := bK7.lt
        have bL7c := bL7.cell
        have bL7f := bL7.frozen
        have bL7l := bL7.lt
        have bX7c := bX7.cell
        have bX7f := bX7.frozen
        have bX7l := bX7.lt
        go_wp2_with (fail)
        refine calls_at (fun V8 hV => ?_)
        have kv : Up w7 V8 := by rw [hV]; (repeat (first | with_reducible exact Up.refl _ | with_reducible refine Up.alloc ?_ _ | with_reducible refine Up.drew ?_ | refine Up.setCell ?_ (by simp <;> omega) _))
        have bSv := bS7.up kv
        have bMv := bM7.up kv
        have bGv := bG7.up kv
        have bKv := bK7.up kv
        have bLv := bL7.up kv
        have bXv := bX7.up kv
        have bYv : Blk V8 (w7.heap.size) 25 #[.int .i64 W4, .slice (some PY) W4 cY, .slice (some QY) W4 dY] := by rw [hV]; (repeat (first | with_reducible exact Blk.new' _ (by simp) _ _ | with_reducible refine Blk.alloc ?_ _ | with_reducible refine Blk.drew ?_ | refine Blk.far ?_ (by simp <;> omega) _))
        have Uv : Up w V8 := U7.trans kv
        have sav := sa7.up kv
        have sXv := sX7.up kv
        have sRv := sR7.up kv
        have sYv := sY7.up kv
        have sTv := sT7.up kv
        clear hV kv bS7 bS7c bS7f bS7l bM7 bM7c bM7f bM7l bG7 bG7c bG7f bG7l bK7 bK7c bK7f bK7l bL7 bL7c bL7f bL7l bX7 bX7c bX7f bX7l U7 sa7 sX7 sR7 sY7 sT7
        refine (HSG0.out V8).mono ?_
        rintro e w8 ⟨rfl, k8⟩
        have bS8 := bSv.up k8
        have bM8 := bMv.up k8
        have bG8 := bGv.up k8
        have bK8 := bKv.up k8
        have bL8 := bLv.up k8
        have bX8 := bXv.up k8
        have bY8 := bYv.up k8
        have U8 := Uv.trans k8
        have sa8 := sav.up k8
        have sX8 := sXv.up k8
        have sR8 := sRv.up k8
        have sY8 := sYv.up k8
        have sT8 := sTv.up k8
        clear k8 Uv bSv bMv bGv bKv bLv bXv bYv sav sXv sRv sYv sTv
        have bS8c := bS8.cell
        have bS8f := bS8.frozen
        have bS8l := bS8.lt
        have bM8c := bM8.cell
        have bM8f := bM8.frozen
        have bM8l := bM8.lt
        have bG8c := bG8.cell
        have bG8f := bG8.frozen
        have bG8l := bG8.lt
        have bK8c := bK8.cell
        have bK8f := bK8.frozen
        have bK8l := bK8.lt
        have bL8c := bL8.cell
        have bL8f := bL8.frozen
        have bL8l := bL8.lt
        have bX8c := bX8.cell
        have bX8f := bX8.frozen
        have bX8l := bX8.lt
        have bY8c := bY8.cell
        have bY8f := bY8.frozen
        have bY8l := bY8.lt
        go_wp2_with (fail)
        refine calls_at (fun V9 hV => ?_)
        have kv : Up w8 V9 := by rw [hV]; (repeat (first | with_reducible exact Up.refl _ | with_reducible refine Up.alloc ?_ _ | with_reducible refine Up.drew ?_ | refine Up.setCell ?_ (by simp <;> omega) _))
        have bSv := bS8.up kv
        have bMv := bM8.up kv
        have bGv := bG8.up kv
        have bKv := bK8.up kv
        have bLv := bL8.up kv
        have bXv := bX8.up kv
        have bYv := bY8.up kv
        have Uv : Up w V9 := U8.trans kv
        have sav := sa8.up kv
        have sXv := sX8.up kv
        have sRv := sR8.up kv
        have sYv := sY8.up kv
        have sTv := sT8.up kv
        clear hV kv bS8 bS8c bS8f bS8l bM8 bM8c bM8f bM8l bG8 bG8c bG8f bG8l bK8 bK8c bK8f bK8l bL8 bL8c bL8f bL8l bX8 bX8c bX8f bX8l bY8 bY8c bY8f bY8l U8 sa8 sX8 sR8 sY8 sT8
        refine (HMM.out PX QX PY QY cX dX cY dY V9 sXv sYv).mono ?_
        rintro e w9 ⟨rfl, k9⟩
        have bS9 := bSv.up k9
        have bM9 := bMv.up k9
        have bG9 := bGv.up k9
        have bK9 := bKv.up k9
        have bL9 := bLv.up k9
        have bX9 := bXv.up k9
        have bY9 := bYv.up k9
        have U9 := Uv.trans k9
        have sa9 := sav.up k9
        have sX9 := sXv.up k9
        have sR9 := sRv.up k9
        have sY9 := sYv.up k9
        have sT9 := sTv.up k9
        clear k9 Uv bSv bMv bGv bKv bLv bXv bYv sav sXv sRv sYv sTv
        have bS9c := bS9.cell
        have bS9f := bS9.frozen
        have bS9l := bS9.lt
        have bM9c := bM9.cell
        have bM9f := bM9.frozen
        have bM9l := bM9.lt
        have bG9c := bG9.cell
        have bG9f := bG9.frozen
        have bG9l := bG9.lt
        have bK9c := bK9.cell
        have bK9f := bK9.frozen
        have bK9l := bK9.lt
        have bL9c := bL9.cell
        have bL9f := bL9.frozen
        have bL9l := bL9.lt
        have bX9c := bX9.cell
        have bX9f := bX9.frozen
        have bX9l := bX9.lt
        have bY9c := bY9.cell
        have bY9f := bY9.frozen
        have bY9l := bY9.lt
        go_wp2_with (fail)
        refine calls_at (fun V10 hV => ?_)
        have kv : Up w9 V10 := by rw [hV]; (repeat (first | with_reducible exact Up.refl _ | with_reducible refine Up.alloc ?_ _ | with_reducible refine Up.drew ?_ | refine Up.setCell ?_ (by simp <;> omega) _))
        have bSv := bS9.up kv
        have bMv := bM9.up kv
        have bGv := bG9.up kv
        have bKv := bK9.up kv
        have bLv := bL9.up kv
        have bXv := bX9.up kv
        have bYv := bY9.up kv
        have Uv : Up w V10 := U9.trans kv
        have sav := sa9.up kv
        have sXv := sX9.up kv
        have sRv := sR9.up kv
        have sYv := sY9.up kv
        have sTv := sT9.up kv
        clear hV kv bS9 bS9c bS9f bS9l bM9 bM9c bM9f bM9l bG9 bG9c bG9f bG9l bK9 bK9c bK9f bK9l bL9 bL9c bL9f bL9l bX9 bX9c bX9f bX9l bY9 bY9c bY9f bY9l U9 sa9 sX9 sR9 sY9 sT9
        refine (HRR.out V10 _ _ sRv sTv).mono ?_
        rintro e w10 ⟨rfl, k10⟩
        have bS10 := bSv.up k10
        have bM10 := bMv.up k10
        have bG10 := bGv.up k10
        have bK10 := bKv.up k10
        have bL10 := bLv.up k10
        have bX10 := bXv.up k10
        have bY10 := bYv.up k10
        have U10 := Uv.trans k10
        have sa10 := sav.up k10
        have sX10 := sXv.up k10
        have sR10 := sRv.up k10
        have sY10 := sYv.up k10
        have sT10 := sTv.up k10
        clear k10 Uv bSv bMv bGv bKv bLv bXv bYv sav sXv sRv sYv sTv
        have bS10c := bS10.cell
        have bS10f := bS10.frozen
        have bS10l := bS10.lt
        have bM10c := bM10.cell
        have bM10f := bM10.frozen
        have bM10l := bM10.lt
        have bG10c := bG10.cell
        have bG10f := bG10.frozen
        have bG10l := bG10.lt
        have bK10c := bK10.cell
        have bK10f := bK10.frozen
        have bK10l := bK10.lt
        have bL10c := bL10.cell
        have bL10f := bL10.frozen
        have bL10l := bL10.lt
        have bX10c := bX10.cell
        have bX10f := bX10.frozen
        have bX10l := bX10.lt
        have bY10c := bY10.cell
        have bY10f := bY10.frozen
        have bY10l := bY10.lt
        go_wp2_with (fail)
        obtain ⟨W0, hW0⟩ : ∃ W0 : World, W0 = w10.drew := ⟨_, rfl⟩
        have U0 : Up W0 w10.drew := by rw [hW0]; exact Up.refl _
        have k0 : Up w10 W0 := by rw [hW0]; exact (Up.refl _).drew
        have bS0 := bS10.up k0
        have bM0 := bM10.up k0
        have bG0 := bG10.up k0
        have bK0 := bK10.up k0
        have bL0 := bL10.up k0
        have bX0 := bX10.up k0
        have bY0 := bY10.up k0
        have sa0 := sa10.up k0
        have sX0 := sX10.up k0
        have sR0 := sR10.up k0
        have sY0 := sY10.up k0
        have sT0 := sT10.up k0
        have UW0 := U10.trans k0
        clear hW0 k0 bS10 bS10c bS10f bS10l bM10 bM10c bM10f bM10l bG10 bG10c bG10f bG10l bK10 bK10c bK10f bK10l bL10 bL10c bL10f bL10l bX10 bX10c bX10f bX10l bY10 bY10c bY10f bY10l U10 sa10 sX10 sR10 sY10 sT10
        go_region_held3 (fun w' => (∀ zi, w'.cell? ⟨w.heap.size + 1, zi, none⟩ = (#[.int .i64 m.n, .slice (some P) m.n c0, .slice (some Q) m.n c1] : Array Value)[zi]?) ∧ (∀ zi, w'.cell? ⟨w.heap.size + 1 + 1, zi, none⟩ = (#[.slice Aa na ca, .slice Ba sa da] : Array Value)[zi]?))
          (exact ⟨fun zi => (Blk.up bM0 (by assumption)).cell zi, fun zi => (Blk.up bG0 (by assumption)).cell zi⟩)
          (first
            | (go_at_call 18; ((with_reducible refine (HVW.out _ (UW0.trans (by assumption))).mono ?_); rintro e wz ⟨rfl, hz⟩; have UZ := Up.trans (a := W0) (by assumption) hz))
            | (go_at_call 19; ((with_reducible refine (HVR.out _ (UW0.trans (by assumption))).mono ?_); rintro e wz ⟨rfl, hz⟩; have UZ := Up.trans (a := W0) (by assumption) hz))
            | (go_at_call 20; ((with_reducible refine (HAL.out _ _ (UW0.trans (by assumption)) (sa0.up (by assumption))).mono ?_); rintro e wz ⟨rfl, hz⟩; have UZ := Up.trans (a := W0) (by assumption) hz))
            | (go_at_call 21; ((with_reducible refine (HAR.out _ _ (UW0.trans (by assumption)) (sa0.up (by assumption))).mono ?_); rintro e wz ⟨rfl, hz⟩; have UZ := Up.trans (a := W0) (by assumption) hz)))
        all_goals
          obtain ⟨w11, hww⟩ : ∃ z : World, z = wz := ⟨_, rfl⟩
          subst hww
          have bS11 := bS0.up UZ
          have bM11 := bM0.up UZ
          have bG11 := bG0.up UZ
          have bK11 := bK0.up UZ
          have bL11 := bL0.up UZ
          have bX11 := bX0.up UZ
          have bY11 := bY0.up UZ
          have sa11 := sa0.up UZ
          have sX11 := sX0.up UZ
          have sR11 := sR0.up UZ
          have sY11 := sY0.up UZ
          have sT11 := sT0.up UZ
          have U11 := UW0.trans UZ
          clear bS0 bM0 bG0 bK0 bL0 bX0 bY0 sa0 sX0 sR0 sY0 sT0
          have bS11c := bS11.cell
          have bS11f := bS11.frozen
          have bS11l := bS11.lt
          have bM11c := bM11.cell
          have bM11f := bM11.frozen
          have bM11l := bM11.lt
          have bG11c := bG11.cell
          have bG11f := bG11.frozen
          have bG11l := bG11.lt
          have bK11c := bK11.cell
          have bK11f := bK11.frozen
          have bK11l := bK11.lt
          have bL11c := bL11.cell
          have bL11f := bL11.frozen
          have bL11l := bL11.lt
          have bX11c := bX11.cell
          have bX11f := bX11.frozen
          have bX11l := bX11.lt
          have bY11c := bY11.cell
          have bY11f := bY11.frozen
          have bY11l := bY11.lt
          go_wp2
          go_ret
          exact ⟨rfl, U11⟩
      · have HOG : Hid (∀ V, Up w V → Calls Tryz.prog 11 #[mev m.n P Q c0 c1, .slice A L.length c] V (OfY (ofG m L) (m.rch L.flatten).length L.length V)) := Lib.hid (fun V k => (HOF.out V k).mono fun e w' h => by
          rw [if_pos rfl] at h
          exact h)
        have HRG : Hid (∀ V, Up w V → Calls Tryz.prog 12 #[mev m.n P Q c0 c1, .slice A L.length c] V (OfY (ofG m L) (m.rch L.flatten).length L.length V)) := Lib.hid (fun V k => (HRF.out V k).mono fun e w' h => by
          rw [if_pos rfl] at h
          exact h)
        clear HOF HRF HSG0
        generalize (m.rch L.flatten).length = rn at *
        generalize L.length = ln at *
        generalize ofG m L = kk at *
        generalize a.1.length = na at *
        generalize a.2.length = sa at *
        go_enter Tryz.func3, Tryz.ntmps3
        go_wp2_with (fail)
        refine calls_at (fun V1 hV => ?_)
        have kv : Up w V1 := by rw [hV]; (repeat (first | with_reducible exact Up.refl _ | with_reducible refine Up.alloc ?_ _ | with_reducible refine Up.drew ?_ | refine Up.setCell ?_ (by simp <;> omega) _))
        have bSv : Blk V1 (w.heap.size) 32 #[.int .i64 m.n, .slice (some P) m.n c0, .slice (some Q) m.n c1, .slice A ln c, .slice Aa na ca, .slice Ba sa da, .int .i64 W4, .int .i64 s1] := by rw [hV]; (repeat (first | with_reducible exact Blk.new' _ (by simp) _ _ | with_reducible refine Blk.alloc ?_ _ | with_reducible refine Blk.drew ?_ | refine Blk.far ?_ (by simp <;> omega) _))
        have bMv : Blk V1 (w.heap.size + 1) 25 #[.int .i64 m.n, .slice (some P) m.n c0, .slice (some Q) m.n c1] := by rw [hV]; (repeat (first | with_reducible exact Blk.new' _ (by simp) _ _ | with_reducible refine Blk.alloc ?_ _ | with_reducible refine Blk.drew ?_ | refine Blk.far ?_ (by simp <;> omega) _))
        have bGv : Blk V1 (w.heap.size + 1 + 1) 30 #[.slice Aa na ca, .slice Ba sa da] := by rw [hV]; (repeat (first | with_reducible exact Blk.new' _ (by simp) _ _ | with_reducible refine Blk.alloc ?_ _ | with_reducible refine Blk.drew ?_ | refine Blk.far ?_ (by simp <;> omega) _))
        have Uv : Up w V1 := kv
        have sav := sa0.up kv
        clear hV kv sa0
        refine (HSH.out V1).mono ?_
        rintro e w1 ⟨rfl, k1⟩
        have bS1 := bSv.up k1
        have bM1 := bMv.up k1
        have bG1 := bGv.up k1
        have U1 := Uv.trans k1
        have sa1 := sav.up k1
        clear k1 Uv bSv bMv bGv sav
        have bS1c := bS1.cell
        have bS1f := bS1.frozen
        have bS1l := bS1.lt
        have bM1c := bM1.cell
        have bM1f := bM1.frozen
        have bM1l := bM1.lt
        have bG1c := bG1.cell
        have bG1f := bG1.frozen
        have bG1l := bG1.lt
        go_wp2_with (fail)
        refine calls_at (fun V2 hV => ?_)
        have kv : Up w1 V2 := by rw [hV]; (repeat (first | with_reducible exact Up.refl _ | with_reducible refine Up.alloc ?_ _ | with_reducible refine Up.drew ?_ | refine Up.setCell ?_ (by simp <;> omega) _))
        have bSv := bS1.up kv
        have bMv := bM1.up kv
        have bGv := bG1.up kv
        have Uv : Up w V2 := U1.trans kv
        have sav := sa1.up kv
        clear hV kv bS1 bS1c bS1f bS1l bM1 bM1c bM1f bM1l bG1 bG1c bG1f bG1l U1 sa1
        refine (HF.out V2 Uv).mono ?_
        rintro e w2 ⟨rfl, k2⟩
        have bS2 := bSv.up k2
        have bM2 := bMv.up k2
        have bG2 := bGv.up k2
        have U2 := Uv.trans k2
        have sa2 := sav.up k2
        clear k2 Uv bSv bMv bGv sav
        have bS2c := bS2.cell
        have bS2f := bS2.frozen
        have bS2l := bS2.lt
        have bM2c := bM2.cell
        have bM2f := bM2.frozen
        have bM2l := bM2.lt
        have bG2c := bG2.cell
        have bG2f := bG2.frozen
        have bG2l := bG2.lt
        go_wp2_with (fail)
        refine calls_at (fun V3 hV => ?_)
        have kv : Up w2 V3 := by rw [hV]; (repeat (first | with_reducible exact Up.refl _ | with_reducible refine Up.alloc ?_ _ | with_reducible refine Up.drew ?_ | refine Up.setCell ?_ (by simp <;> omega) _))
        have bSv := bS2.up kv
        have bMv := bM2.up kv
        have bGv := bG2.up kv
        have Uv : Up w V3 := U2.trans kv
        have sav := sa2.up kv
        clear hV kv bS2 bS2c bS2f bS2l bM2 bM2c bM2f bM2l bG2 bG2c bG2f bG2l U2 sa2
        refine (HSA.out V3 _ sav).mono ?_
        rintro e w3 ⟨rfl, k3⟩
        have bS3 := bSv.up k3
        have bM3 := bMv.up k3
        have bG3 := bGv.up k3
        have U3 := Uv.trans k3
        have sa3 := sav.up k3
        clear k3 Uv bSv bMv bGv sav
        have bS3c := bS3.cell
        have bS3f := bS3.frozen
        have bS3l := bS3.lt
        have bM3c := bM3.cell
        have bM3f := bM3.frozen
        have bM3l := bM3.lt
        have bG3c := bG3.cell
        have bG3f := bG3.frozen
        have bG3l := bG3.lt
        go_wp2_with (fail)
        refine calls_at (fun V4 hV => ?_)
        have kv : Up w3 V4 := by rw [hV]; (repeat (first | with_reducible exact Up.refl _ | with_reducible refine Up.alloc ?_ _ | with_reducible refine Up.drew ?_ | refine Up.setCell ?_ (by simp <;> omega) _))
        have bSv := bS3.up kv
        have bMv := bM3.up kv
        have bGv := bG3.up kv
        have Uv : Up w V4 := U3.trans kv
        have sav := sa3.up kv
        clear hV kv bS3 bS3c bS3f bS3l bM3 bM3c bM3f bM3l bG3 bG3c bG3f bG3l U3 sa3
        refine (HOG.out V4 Uv).mono ?_
        rintro e w4 ⟨AK, cK, BK, dK, rfl, sK4, k4⟩
        have bS4 := bSv.up k4
        have bM4 := bMv.up k4
        have bG4 := bGv.up k4
        have U4 := Uv.trans k4
        have sa4 := sav.up k4
        clear k4 Uv bSv bMv bGv sav
        have bS4c := bS4.cell
        have bS4f := bS4.frozen
        have bS4l := bS4.lt
        have bM4c := bM4.cell
        have bM4f := bM4.frozen
        have bM4l := bM4.lt
        have bG4c := bG4.cell
        have bG4f := bG4.frozen
        have bG4l := bG4.lt
        go_wp2_with (fail)
        refine calls_at (fun V5 hV => ?_)
        have kv : Up w4 V5 := by rw [hV]; (repeat (first | with_reducible exact Up.refl _ | with_reducible refine Up.alloc ?_ _ | with_reducible refine Up.drew ?_ | refine Up.setCell ?_ (by simp <;> omega) _))
        have bSv := bS4.up kv
        have bMv := bM4.up kv
        have bGv := bG4.up kv
        have bKv : Blk V5 (w4.heap.size) 30 #[.slice AK rn cK, .slice BK ln dK] := by rw [hV]; (repeat (first | with_reducible exact Blk.new' _ (by simp) _ _ | with_reducible refine Blk.alloc ?_ _ | with_reducible refine Blk.drew ?_ | refine Blk.far ?_ (by simp <;> omega) _))
        have Uv : Up w V5 := U4.trans kv
        have sav := sa4.up kv
        have sKv := sK4.up kv
        clear hV kv bS4 bS4c bS4f bS4l bM4 bM4c bM4f bM4l bG4 bG4c bG4f bG4l U4 sa4 sK4
        refine (HRG.out V5 Uv).mono ?_
        rintro e w5 ⟨AL, cL, BL, dL, rfl, sL5, k5⟩
        have bS5 := bSv.up k5
        have bM5 := bMv.up k5
        have bG5 := bGv.up k5
        have bK5 := bKv.up k5
        have U5 := Uv.trans k5
        have sa5 := sav.up k5
        have sK5 := sKv.up k5
        clear k5 Uv bSv bMv bGv bKv sav sKv
        have bS5c := bS5.cell
        have bS5f := bS5.frozen
        have bS5l := bS5.lt
        have bM5c := bM5.cell
        have bM5f := bM5.frozen
        have bM5l := bM5.lt
        have bG5c := bG5.cell
        have bG5f := bG5.frozen
        have bG5l := bG5.lt
        have bK5c := bK5.cell
        have bK5f := bK5.frozen
        have bK5l := bK5.lt
        go_wp2_with (fail)
        refine calls_at (fun V6 hV => ?_)
        have kv : Up w5 V6 := by rw [hV]; (repeat (first | with_reducible exact Up.refl _ | with_reducible refine Up.alloc ?_ _ | with_reducible refine Up.drew ?_ | refine Up.setCell ?_ (by simp <;> omega) _))
        have bSv := bS5.up kv
        have bMv := bM5.up kv
        have bGv := bG5.up kv
        have bKv := bK5.up kv
        have bLv : Blk V6 (w5.heap.size) 30 #[.slice AL rn cL, .slice BL ln dL] := by rw [hV]; (repeat (first | with_reducible exact Blk.new' _ (by simp) _ _ | with_reducible refine Blk.alloc ?_ _ | with_reducible refine Blk.drew ?_ | refine Blk.far ?_ (by simp <;> omega) _))
        have Uv : Up w V6 := U5.trans kv
        have sav := sa5.up kv
        have sKv := sK5.up kv
        have sLv := sL5.up kv
        clear hV kv bS5 bS5c bS5f bS5l bM5 bM5c bM5f bM5l bG5 bG5c bG5f bG5l bK5 bK5c bK5f bK5l U5 sa5 sK5 sL5
        refine (HPT.out V6 _ sav).mono ?_
        rintro e w6 ⟨PX, QX, cX, dX, BR, kR, rfl, sX6, HWFX, sR6, k6⟩
        have bS6 := bSv.up k6
        have bM6 := bMv.up k6
        have bG6 := bGv.up k6
        have bK6 := bKv.up k6
        have bL6 := bLv.up k6
        have U6 := Uv.trans k6
        have sa6 := sav.up k6
        have sK6 := sKv.up k6
        have sL6 := sLv.up k6
        clear k6 Uv bSv bMv bGv bKv bLv sav sKv sLv
        have bS6c := bS6.cell
        have bS6f := bS6.frozen
        have bS6l := bS6.lt
        have bM6c := bM6.cell
        have bM6f := bM6.frozen
        have bM6l := bM6.lt
        have bG6c := bG6.cell
        have bG6f := bG6.frozen
        have bG6l := bG6.lt
        have bK6c := bK6.cell
        have bK6f := bK6.frozen
        have bK6l := bK6.lt
        have bL6c := bL6.cell
        have bL6f := bL6.frozen
        have bL6l := bL6.lt
        go_wp2_with (fail)
        refine calls_at (fun V7 hV => ?_)
        have kv : Up w6 V7 := by rw [hV]; (repeat (first | with_reducible exact Up.refl _ | with_reducible refine Up.alloc ?_ _ | with_reducible refine Up.drew ?_ | refine Up.setCell ?_ (by simp <;> omega) _))
        have bSv := bS6.up kv
        have bMv := bM6.up kv
        have bGv := bG6.up kv
        have bKv := bK6.up kv
        have bLv := bL6.up kv
        have bXv : Blk V7 (w6.heap.size) 25 #[.int .i64 W4, .slice (some PX) W4 cX, .slice (some QX) W4 dX] := by rw [hV]; (repeat (first | with_reducible exact Blk.new' _ (by simp) _ _ | with_reducible refine Blk.alloc ?_ _ | with_reducible refine Blk.drew ?_ | refine Blk.far ?_ (by simp <;> omega) _))
        have Uv : Up w V7 := U6.trans kv
        have sav := sa6.up kv
        have sKv := sK6.up kv
        have sLv := sL6.up kv
        have sXv := sX6.up kv
        have sRv := sR6.up kv
        clear hV kv bS6 bS6c bS6f bS6l bM6 bM6c bM6f bM6l bG6 bG6c bG6f bG6l bK6 bK6c bK6f bK6l bL6 bL6c bL6f bL6l U6 sa6 sK6 sL6 sX6 sR6
        refine (HRP.out V7 _ sav).mono ?_
        rintro e w7 ⟨PY, QY, cY, dY, BT, kT, rfl, sY7, HWFY, sT7, k7⟩
        have bS7 := bSv.up k7
        have bM7 := bMv.up k7
        have bG7 := bGv.up k7
        have bK7 := bKv.up k7
        have bL7 := bLv.up k7
        have bX7 := bXv.up k7
        have U7 := Uv.trans k7
        have sa7 := sav.up k7
        have sK7 := sKv.up k7
        have sL7 := sLv.up k7
        have sX7 := sXv.up k7
        have sR7 := sRv.up k7
        clear k7 Uv bSv bMv bGv bKv bLv bXv sav sKv sLv sXv sRv
        have bS7c := bS7.cell
        have bS7f := bS7.frozen
        have bS7l := bS7.lt
        have bM7c := bM7.cell
        have bM7f := bM7.frozen
        have bM7l := bM7.lt
        have bG7c := bG7.cell
        have bG7f := bG7.frozen
        have bG7l := bG7.lt
        have bK7c := bK7.cell
        have bK7f := bK7.frozen
        have bK7l := bK7.lt
        have bL7c := bL7.cell
        have bL7f := bL7.frozen
        have bL7l := bL7.lt
        have bX7c := bX7.cell
        have bX7f := bX7.frozen
        have bX7l := bX7.lt
        go_wp2_with (fail)
        refine calls_at (fun V8 hV => ?_)
        have kv : Up w7 V8 := by rw [hV]; (repeat (first | with_reducible exact Up.refl _ | with_reducible refine Up.alloc ?_ _ | with_reducible refine Up.drew ?_ | refine Up.setCell ?_ (by simp <;> omega) _))
        have bSv := bS7.up kv
        have bMv := bM7.up kv
        have bGv := bG7.up kv
        have bKv := bK7.up kv
        have bLv := bL7.up kv
        have bXv := bX7.up kv
        have bYv : Blk V8 (w7.heap.size) 25 #[.int .i64 W4, .slice (some PY) W4 cY, .slice (some QY) W4 dY] := by rw [hV]; (repeat (first | with_reducible exact Blk.new' _ (by simp) _ _ | with_reducible refine Blk.alloc ?_ _ | with_reducible refine Blk.drew ?_ | refine Blk.far ?_ (by simp <;> omega) _))
        have Uv : Up w V8 := U7.trans kv
        have sav := sa7.up kv
        have sKv := sK7.up kv
        have sLv := sL7.up kv
        have sXv := sX7.up kv
        have sRv := sR7.up kv
        have sYv := sY7.up kv
        have sTv := sT7.up kv
        clear hV kv bS7 bS7c bS7f bS7l bM7 bM7c bM7f bM7l bG7 bG7c bG7f bG7l bK7 bK7c bK7f bK7l bL7 bL7c bL7f bL7l bX7 bX7c bX7f bX7l U7 sa7 sK7 sL7 sX7 sR7 sY7 sT7
        refine (HSG.out V8 _ _ sKv sLv).mono ?_
        rintro e w8 ⟨rfl, k8⟩
        have bS8 := bSv.up k8
        have bM8 := bMv.up k8
        have bG8 := bGv.up k8
        have bK8 := bKv.up k8
        have bL8 := bLv.up k8
        have bX8 := bXv.up k8
        have bY8 := bYv.up k8
        have U8 := Uv.trans k8
        have sa8 := sav.up k8
        have sK8 := sKv.up k8
        have sL8 := sLv.up k8
        have sX8 := sXv.up k8
        have sR8 := sRv.up k8
        have sY8 := sYv.up k8
        have sT8 := sTv.up k8
        clear k8 Uv bSv bMv bGv bKv bLv bXv bYv sav sKv sLv sXv sRv sYv sTv
        have bS8c := bS8.cell
        have bS8f := bS8.frozen
        have bS8l := bS8.lt
        have bM8c := bM8.cell
        have bM8f := bM8.frozen
        have bM8l := bM8.lt
        have bG8c := bG8.cell
        have bG8f := bG8.frozen
        have bG8l := bG8.lt
        have bK8c := bK8.cell
        have bK8f := bK8.frozen
        have bK8l := bK8.lt
        have bL8c := bL8.cell
        have bL8f := bL8.frozen
        have bL8l := bL8.lt
        have bX8c := bX8.cell
        have bX8f := bX8.frozen
        have bX8l := bX8.lt
        have bY8c := bY8.cell
        have bY8f := bY8.frozen
        have bY8l := bY8.lt
        go_wp2_with (fail)
        refine calls_at (fun V9 hV => ?_)
        have kv : Up w8 V9 := by rw [hV]; (repeat (first | with_reducible exact Up.refl _ | with_reducible refine Up.alloc ?_ _ | with_reducible refine Up.drew ?_ | refine Up.setCell ?_ (by simp <;> omega) _))
        have bSv := bS8.up kv
        have bMv := bM8.up kv
        have bGv := bG8.up kv
        have bKv := bK8.up kv
        have bLv := bL8.up kv
        have bXv := bX8.up kv
        have bYv := bY8.up kv
        have Uv : Up w V9 := U8.trans kv
        have sav := sa8.up kv
        have sKv := sK8.up kv
        have sLv := sL8.up kv
        have sXv := sX8.up kv
        have sRv := sR8.up kv
        have sYv := sY8.up kv
        have sTv := sT8.up kv
        clear hV kv bS8 bS8c bS8f bS8l bM8 bM8c bM8f bM8l bG8 bG8c bG8f bG8l bK8 bK8c bK8f bK8l bL8 bL8c bL8f bL8l bX8 bX8c bX8f bX8l bY8 bY8c bY8f bY8l U8 sa8 sK8 sL8 sX8 sR8 sY8 sT8
        refine (HMM.out PX QX PY QY cX dX cY dY V9 sXv sYv).mono ?_
        rintro e w9 ⟨rfl, k9⟩
        have bS9 := bSv.up k9
        have bM9 := bMv.up k9
        have bG9 := bGv.up k9
        have bK9 := bKv.up k9
        have bL9 := bLv.up k9
        have bX9 := bXv.up k9
        have bY9 := bYv.up k9
        have U9 := Uv.trans k9
        have sa9 := sav.up k9
        have sK9 := sKv.up k9
        have sL9 := sLv.up k9
        have sX9 := sXv.up k9
        have sR9 := sRv.up k9
        have sY9 := sYv.up k9
        have sT9 := sTv.up k9
        clear k9 Uv bSv bMv bGv bKv bLv bXv bYv sav sKv sLv sXv sRv sYv sTv
        have bS9c := bS9.cell
        have bS9f := bS9.frozen
        have bS9l := bS9.lt
        have bM9c := bM9.cell
        have bM9f := bM9.frozen
        have bM9l := bM9.lt
        have bG9c := bG9.cell
        have bG9f := bG9.frozen
        have bG9l := bG9.lt
        have bK9c := bK9.cell
        have bK9f := bK9.frozen
        have bK9l := bK9.lt
        have bL9c := bL9.cell
        have bL9f := bL9.frozen
        have bL9l := bL9.lt
        have bX9c := bX9.cell
        have bX9f := bX9.frozen
        have bX9l := bX9.lt
        have bY9c := bY9.cell
        have bY9f := bY9.frozen
        have bY9l := bY9.lt
        go_wp2_with (fail)
        refine calls_at (fun V10 hV => ?_)
        have kv : Up w9 V10 := by rw [hV]; (repeat (first | with_reducible exact Up.refl _ | with_reducible refine Up.alloc ?_ _ | with_reducible refine Up.drew ?_ | refine Up.setCell ?_ (by simp <;> omega) _))
        have bSv := bS9.up kv
        have bMv := bM9.up kv
        have bGv := bG9.up kv
        have bKv := bK9.up kv
        have bLv := bL9.up kv
        have bXv := bX9.up kv
        have bYv := bY9.up kv
        have Uv : Up w V10 := U9.trans kv
        have sav := sa9.up kv
        have sKv := sK9.up kv
        have sLv := sL9.up kv
        have sXv := sX9.up kv
        have sRv := sR9.up kv
        have sYv := sY9.up kv
        have sTv := sT9.up kv
        clear hV kv bS9 bS9c bS9f bS9l bM9 bM9c bM9f bM9l bG9 bG9c bG9f bG9l bK9 bK9c bK9f bK9l bL9 bL9c bL9f bL9l bX9 bX9c bX9f bX9l bY9 bY9c bY9f bY9l U9 sa9 sK9 sL9 sX9 sR9 sY9 sT9
        refine (HRR.out V10 _ _ sRv sTv).mono ?_
        rintro e w10 ⟨rfl, k10⟩
        have bS10 := bSv.up k10
        have bM10 := bMv.up k10
        have bG10 := bGv.up k10
        have bK10 := bKv.up k10
        have bL10 := bLv.up k10
        have bX10 := bXv.up k10
        have bY10 := bYv.up k10
        have U10 := Uv.trans k10
        have sa10 := sav.up k10
        have sK10 := sKv.up k10
        have sL10 := sLv.up k10
        have sX10 := sXv.up k10
        have sR10 := sRv.up k10
        have sY10 := sYv.up k10
        have sT10 := sTv.up k10
        clear k10 Uv bSv bMv bGv bKv bLv bXv bYv sav sKv sLv sXv sRv sYv sTv
        have bS10c := bS10.cell
        have bS10f := bS10.frozen
        have bS10l := bS10.lt
        have bM10c := bM10.cell
        have bM10f := bM10.frozen
        have bM10l := bM10.lt
        have bG10c := bG10.cell
        have bG10f := bG10.frozen
        have bG10l := bG10.lt
        have bK10c := bK10.cell
        have bK10f := bK10.frozen
        have bK10l := bK10.lt
        have bL10c := bL10.cell
        have bL10f := bL10.frozen
        have bL10l := bL10.lt
        have bX10c := bX10.cell
        have bX10f := bX10.frozen
        have bX10l := bX10.lt
        have bY10c := bY10.cell
        have bY10f := bY10.frozen
        have bY10l := bY10.lt
        go_wp2_with (fail)
        obtain ⟨W0, hW0⟩ : ∃ W0 : World, W0 = w10.drew := ⟨_, rfl⟩
        have U0 : Up W0 w10.drew := by rw [hW0]; exact Up.refl _
        have k0 : Up w10 W0 := by rw [hW0]; exact (Up.refl _).drew
        have bS0 := bS10.up k0
        have bM0 := bM10.up k0
        have bG0 := bG10.up k0
        have bK0 := bK10.up k0
        have bL0 := bL10.up k0
        have bX0 := bX10.up k0
        have bY0 := bY10.up k0
        have sa0 := sa10.up k0
        have sK0 := sK10.up k0
        have sL0 := sL10.up k0
        have sX0 := sX10.up k0
        have sR0 := sR10.up k0
        have sY0 := sY10.up k0
        have sT0 := sT10.up k0
        have UW0 := U10.trans k0
        clear hW0 k0 bS10 bS10c bS10f bS10l bM10 bM10c bM10f bM10l bG10 bG10c bG10f bG10l bK10 bK10c bK10f bK10l bL10 bL10c bL10f bL10l bX10 bX10c bX10f bX10l bY10 bY10c bY10f bY10l U10 sa10 sK10 sL10 sX10 sR10 sY10 sT10
        go_region_held3 (fun w' => (∀ zi, w'.cell? ⟨w.heap.size + 1, zi, none⟩ = (#[.int .i64 m.n, .slice (some P) m.n c0, .slice (some Q) m.n c1] : Array Value)[zi]?) ∧ (∀ zi, w'.cell? ⟨w.heap.size + 1 + 1, zi, none⟩ = (#[.slice Aa na ca, .slice Ba sa da] : Array Value)[zi]?))
          (exact ⟨fun zi => (Blk.up bM0 (by assumption)).cell zi, fun zi => (Blk.up bG0 (by assumption)).cell zi⟩)
          (first
            | (go_at_call 18; ((with_reducible refine (HVW.out _ (UW0.trans (by assumption))).mono ?_); rintro e wz ⟨rfl, hz⟩; have UZ := Up.trans (a := W0) (by assumption) hz))
            | (go_at_call 19; ((with_reducible refine (HVR.out _ (UW0.trans (by assumption))).mono ?_); rintro e wz ⟨rfl, hz⟩; have UZ := Up.trans (a := W0) (by assumption) hz))
            | (go_at_call 20; ((with_reducible refine (HAL.out _ _ (UW0.trans (by assumption)) (sa0.up (by assumption))).mono ?_); rintro e wz ⟨rfl, hz⟩; have UZ := Up.trans (a := W0) (by assumption) hz))
            | (go_at_call 21; ((with_reducible refine (HAR.out _ _ (UW0.trans (by assumption)) (sa0.up (by assumption))).mono ?_); rintro e wz ⟨rfl, hz⟩; have UZ := Up.trans (a := W0) (by assumption) hz)))
        all_goals
          obtain ⟨w11, hww⟩ : ∃ z : World, z = wz := ⟨_, rfl⟩
          subst hww
          have bS11 := bS0.up UZ
          have bM11 := bM0.up UZ
          have bG11 := bG0.up UZ
          have bK11 := bK0.up UZ
          have bL11 := bL0.up UZ
          have bX11 := bX0.up UZ
          have bY11 := bY0.up UZ
          have sa11 := sa0.up UZ
          have sK11 := sK0.up UZ
          have sL11 := sL0.up UZ
          have sX11 := sX0.up UZ
          have sR11 := sR0.up UZ
          have sY11 := sY0.up UZ
          have sT11 := sT0.up UZ
          have U11 := UW0.trans UZ
          clear bS0 bM0 bG0 bK0 bL0 bX0 bY0 sa0 sK0 sL0 sX0 sR0 sY0 sT0
          have bS11c := bS11.cell
          have bS11f := bS11.frozen
          have bS11l := bS11.lt
          have bM11c := bM11.cell
          have bM11f := bM11.frozen
          have bM11l := bM11.lt
          have bG11c := bG11.cell
          have bG11f := bG11.frozen
          have bG11l := bG11.lt
          have bK11c := bK11.cell
          have bK11f := bK11.frozen
          have bK11l := bK11.lt
          have bL11c := bL11.cell
          have bL11f := bL11.frozen
          have bL11l := bL11.lt
          have bX11c := bX11.cell
          have bX11f := bX11.frozen
          have bX11l := bX11.lt
          have bY11c := bY11.cell
          have bY11f := bY11.frozen
          have bY11l := bY11.lt
          go_wp2
          go_ret
          exact ⟨rfl, U11⟩
    · obtain ⟨y, hy⟩ : ∃ y, pte a x1 s1 = y := ⟨_, rfl⟩
      rw [hy] at hp
      have HPT := Lib.hid (fun V u hu => put_no hSa hx hy hp V u hu)
      have HRP := Lib.hid (fun V u hu => rput_no hSa hy hp V u hu)
      have hcw : (decide (400 < x1) = false ∧ decide (x1 > 400) = false) ∨ (decide (400 < x1) = true ∧ decide (x1 > 400) = true ∧ decide (x1 ≤ 4096) = false) := by
        by_cases h : 400 < x1
        · exact .inr ⟨decide_eq_true h, decide_eq_true h, decide_eq_false (fun k => hw ⟨h, k⟩)⟩
        · exact .inl ⟨decide_eq_false h, decide_eq_false h⟩
      clear ha hia hSa sa hx hw hp hy
      rcases hcw with ⟨hc1, hc2⟩ | ⟨hc1, hc2, hc3⟩
      all_goals
        cases ob
        · have HOG : Hid (∀ V, Up w V → Calls Tryz.prog 11 #[mev m.n P Q c0 c1, .slice A L.length c] V fun e w' => e = .returned (.tuple #[gr0, .int .i64 10]) ∧ Up V w') := Lib.hid (fun V k => (HOF.out V k).mono fun e w' h => by
            rw [if_neg (by decide)] at h
            exact h)
          have HRG : Hid (∀ V, Up w V → Calls Tryz.prog 12 #[mev m.n P Q c0 c1, .slice A L.length c] V fun e w' => e = .returned (.tuple #[gr0, .int .i64 10]) ∧ Up V w') := Lib.hid (fun V k => (HRF.out V k).mono fun e w' h => by
            rw [if_neg (by decide)] at h
            exact h)
          clear HOF HRF HSG
          generalize L.length = ln at *
          generalize a.1.length = na at *
          generalize a.2.length = sa at *
          go_enter Tryz.func3, Tryz.ntmps3
          go_wp2_with (fail)
          refine calls_at (fun V1 hV => ?_)
          have kv : Up w V1 := by rw [hV]; (repeat (first | with_reducible exact Up.refl _ | with_reducible refine Up.alloc ?_ _ | with_reducible refine Up.drew ?_ | refine Up.setCell ?_ (by simp <;> omega) _))
          have bSv : Blk V1 (w.heap.size) 32 #[.int .i64 m.n, .slice (some P) m.n c0, .slice (some Q) m.n c1, .slice A ln c, .slice Aa na ca, .slice Ba sa da, .int .i64 x1, .int .i64 s1] := by rw [hV]; (repeat (first | with_reducible exact Blk.new' _ (by simp) _ _ | with_reducible refine Blk.alloc ?_ _ | with_reducible refine Blk.drew ?_ | refine Blk.far ?_ (by simp <;> omega) _))
          have bMv : Blk V1 (w.heap.size + 1) 25 #[.int .i64 m.n, .slice (some P) m.n c0, .slice (some Q) m.n c1] := by rw [hV]; (repeat (first | with_reducible exact Blk.new' _ (by simp) _ _ | with_reducible refine Blk.alloc ?_ _ | with_reducible refine Blk.drew ?_ | refine Blk.far ?_ (by simp <;> omega) _))
          have bGv : Blk V1 (w.heap.size + 1 + 1) 30 #[.slice Aa na ca, .slice Ba sa da] := by rw [hV]; (repeat (first | with_reducible exact Blk.new' _ (by simp) _ _ | with_reducible refine Blk.alloc ?_ _ | with_reducible refine Blk.drew ?_ | refine Blk.far ?_ (by simp <;> omega) _))
          have Uv : Up w V1 := kv
          have sav := sa0.up kv
          clear hV kv sa0
          refine (HSH.out V1).mono ?_
          rintro e w1 ⟨rfl, k1⟩
          have bS1 := bSv.up k1
          have bM1 := bMv.up k1
          have bG1 := bGv.up k1
          have U1 := Uv.trans k1
          have sa1 := sav.up k1
          clear k1 Uv bSv bMv bGv sav
          have bS1c := bS1.cell
          have bS1f := bS1.frozen
          have bS1l := bS1.lt
          have bM1c := bM1.cell
          have bM1f := bM1.frozen
          have bM1l := bM1.lt
          have bG1c := bG1.cell
          have bG1f := bG1.frozen
          have bG1l := bG1.lt
          go_wp2_with (fail)
          refine calls_at (fun V2 hV => ?_)
          have kv : Up w1 V2 := by rw [hV]; (repeat (first | with_reducible exact Up.refl _ | with_reducible refine Up.alloc ?_ _ | with_reducible refine Up.drew ?_ | refine Up.setCell ?_ (by simp <;> omega) _))
          have bSv := bS1.up kv
          have bMv := bM1.up kv
          have bGv := bG1.up kv
          have Uv : Up w V2 := U1.trans kv
          have sav := sa1.up kv
          clear hV kv bS1 bS1c bS1f bS1l bM1 bM1c bM1f bM1l bG1 bG1c bG1f bG1l U1 sa1
          refine (HF.out V2 Uv).mono ?_
          rintro e w2 ⟨rfl, k2⟩
          have bS2 := bSv.up k2
          have bM2 := bMv.up k2
          have bG2 := bGv.up k2
          have U2 := Uv.trans k2
          have sa2 := sav.up k2
          clear k2 Uv bSv bMv bGv sav
          have bS2c := bS2.cell
          have bS2f := bS2.frozen
          have bS2l := bS2.lt
          have bM2c := bM2.cell
          have bM2f := bM2.frozen
          have bM2l := bM2.lt
          have bG2c := bG2.cell
          have bG2f := bG2.frozen
          have bG2l := bG2.lt
          go_wp2_with (fail)
          refine calls_at (fun V3 hV => ?_)
          have kv : Up w2 V3 := by rw [hV]; (repeat (first | with_reducible exact Up.refl _ | with_reducible refine Up.alloc ?_ _ | with_reducible refine Up.drew ?_ | refine Up.setCell ?_ (by simp <;> omega) _))
          have bSv := bS2.up kv
          have bMv := bM2.up kv
          have bGv := bG2.up kv
          have Uv : Up w V3 := U2.trans kv
          have sav := sa2.up kv
          clear hV kv bS2 bS2c bS2f bS2l bM2 bM2c bM2f bM2l bG2 bG2c bG2f bG2l U2 sa2
          refine (HSA.out V3 _ sav).mono ?_
          rintro e w3 ⟨rfl, k3⟩
          have bS3 := bSv.up k3
          have bM3 := bMv.up k3
          have bG3 := bGv.up k3
          have U3 := Uv.trans k3
          have sa3 := sav.up k3
          clear k3 Uv bSv bMv bGv sav
          have bS3c := bS3.cell
          have bS3f := bS3.frozen
          have bS3l := bS3.lt
          have bM3c := bM3.cell
          have bM3f := bM3.frozen
          have bM3l := bM3.lt
          have bG3c := bG3.cell
          have bG3f := bG3.frozen
          have bG3l := bG3.lt
          go_wp2_with (fail)
          refine calls_at (fun V4 hV => ?_)
          have kv : Up w3 V4 := by rw [hV]; (repeat (first | with_reducible exact Up.refl _ | with_reducible refine Up.alloc ?_ _ | with_reducible refine Up.drew ?_ | refine Up.setCell ?_ (by simp <;> omega) _))
          have bSv := bS3.up kv
          have bMv := bM3.up kv
          have bGv := bG3.up kv
          have Uv : Up w V4 := U3.trans kv
          have sav := sa3.up kv
          clear hV kv bS3 bS3c bS3f bS3l bM3 bM3c bM3f bM3l bG3 bG3c bG3f bG3l U3 sa3
          refine (HOG.out V4 Uv).mono ?_
          rintro e w4 ⟨rfl, k4⟩
          have bS4 := bSv.up k4
          have bM4 := bMv.up k4
          have bG4 := bGv.up k4
          have U4 := Uv.trans k4
          have sa4 := sav.up k4
          clear k4 Uv bSv bMv bGv sav
          have bS4c := bS4.cell
          have bS4f := bS4.frozen
          have bS4l := bS4.lt
          have bM4c := bM4.cell
          have bM4f := bM4.frozen
          have bM4l := bM4.lt
          have bG4c := bG4.cell
          have bG4f := bG4.frozen
          have bG4l := bG4.lt
          go_wp2_with (fail)
          refine calls_at (fun V5 hV => ?_)
          have kv : Up w4 V5 := by rw [hV]; (repeat (first | with_reducible exact Up.refl _ | with_reducible refine Up.alloc ?_ _ | with_reducible refine Up.drew ?_ | refine Up.setCell ?_ (by simp <;> omega) _))
          have bSv := bS4.up kv
          have bMv := bM4.up kv
          have bGv := bG4.up kv
          have bKv : Blk V5 (w4.heap.size) 30 #[.slice none 0 0, .slice none 0 0] := by rw [hV]; (repeat (first | with_reducible exact Blk.new' _ (by simp) _ _ | with_reducible refine Blk.alloc ?_ _ | with_reducible refine Blk.drew ?_ | refine Blk.far ?_ (by simp <;> omega) _))
          have Uv : Up w V5 := U4.trans kv
          have sav := sa4.up kv
          clear hV kv bS4 bS4c bS4f bS4l bM4 bM4c bM4f bM4l bG4 bG4c bG4f bG4l U4 sa4
          refine (HRG.out V5 Uv).mono ?_
          rintro e w5 ⟨rfl, k5⟩
          have bS5 := bSv.up k5
          have bM5 := bMv.up k5
          have bG5 := bGv.up k5
          have bK5 := bKv.up k5
          have U5 := Uv.trans k5
          have sa5 := sav.up k5
          clear k5 Uv bSv bMv bGv bKv sav
          have bS5c := bS5.cell
          have bS5f := bS5.frozen
          have bS5l := bS5.lt
          have bM5c := bM5.cell
          have bM5f := bM5.frozen
          have bM5l := bM5.lt
          have bG5c := bG5.cell
          have bG5f := bG5.frozen
          have bG5l := bG5.lt
          have bK5c := bK5.cell
          have bK5f := bK5.frozen
          have bK5l := bK5.lt
          go_wp2_with (fail)
          refine calls_at (fun V6 hV => ?_)
          have kv : Up w5 V6 := by rw [hV]; (repeat (first | with_reducible exact Up.refl _ | with_reducible refine Up.alloc ?_ _ | with_reducible refine Up.drew ?_ | refine Up.setCell ?_ (by simp <;> omega) _))
          have bSv := bS5.up kv
          have bMv := bM5.up kv
          have bGv := bG5.up kv
          have bKv := bK5.up kv
          have bLv : Blk V6 (w5.heap.size) 30 #[.slice none 0 0, .slice none 0 0] := by rw [hV]; (repeat (first | with_reducible exact Blk.new' _ (by simp) _ _ | with_reducible refine Blk.alloc ?_ _ | with_reducible refine Blk.drew ?_ | refine Blk.far ?_ (by simp <;> omega) _))
          have Uv : Up w V6 := U5.trans kv
          have sav := sa5.up kv
          clear hV kv bS5 bS5c bS5f bS5l bM5 bM5c bM5f bM5l bG5 bG5c bG5f bG5l bK5 bK5c bK5f bK5l U5 sa5
          refine (HPT.out V6 _ sav).mono ?_
          rintro e w6 ⟨rfl, k6⟩
          have bS6 := bSv.up k6
          have bM6 := bMv.up k6
          have bG6 := bGv.up k6
          have bK6 := bKv.up k6
          have bL6 := bLv.up k6
          have U6 := Uv.trans k6
          have sa6 := sav.up k6
          clear k6 Uv bSv bMv bGv bKv bLv sav
          have bS6c := bS6.cell
          have bS6f := bS6.frozen
          have bS6l := bS6.lt
          have bM6c := bM6.cell
          have bM6f := bM6.frozen
          have bM6l := bM6.lt
          have bG6c := bG6.cell
          have bG6f := bG6.frozen
          have bG6l := bG6.lt
          have bK6c := bK6.cell
          have bK6f := bK6.frozen
          have bK6l := bK6.lt
          have bL6c := bL6.cell
          have bL6f := bL6.frozen
          have bL6l := bL6.lt
          go_wp2_with (fail)
          refine calls_at (fun V7 hV => ?_)
          have kv : Up w6 V7 := by rw [hV]; (repeat (first | with_reducible exact Up.refl _ | with_reducible refine Up.alloc ?_ _ | with_reducible refine Up.drew ?_ | refine Up.setCell ?_ (by simp <;> omega) _))
          have bSv := bS6.up kv
          have bMv := bM6.up kv
          have bGv := bG6.up kv
          have bKv := bK6.up kv
          have bLv := bL6.up kv
          have bXv : Blk V7 (w6.heap.size) 25 #[.int .i64 0, .slice none 0 0, .slice none 0 0] := by rw [hV]; (repeat (first | with_reducible exact Blk.new' _ (by simp) _ _ | with_reducible refine Blk.alloc ?_ _ | with_reducible refine Blk.drew ?_ | refine Blk.far ?_ (by simp <;> omega) _))
          have Uv : Up w V7 := U6.trans kv
          have sav := sa6.up kv
          clear hV kv bS6 bS6c bS6f bS6l bM6 bM6c bM6f bM6l bG6 bG6c bG6f bG6l bK6 bK6c bK6f bK6l bL6 bL6c bL6f bL6l U6 sa6
          refine (HRP.out V7 _ sav).mono ?_
          rintro e w7 ⟨rfl, k7⟩
          have bS7 := bSv.up k7
          have bM7 := bMv.up k7
          have bG7 := bGv.up k7
          have bK7 := bKv.up k7
          have bL7 := bLv.up k7
          have bX7 := bXv.up k7
          have U7 := Uv.trans k7
          have sa7 := sav.up k7
          clear k7 Uv bSv bMv bGv bKv bLv bXv sav
          have bS7c := bS7.cell
          have bS7f := bS7.frozen
          have bS7l := bS7.lt
          have bM7c := bM7.cell
          have bM7f := bM7.frozen
          have bM7l := bM7.lt
          have bG7c := bG7.cell
          have bG7f := bG7.frozen
          have bG7l := bG7.lt
          have bK7c := bK7.cell
          have bK7f := bK7.frozen
          have bK7l := bK7.lt
          have bL7c := bL7.cell
          have bL7f := bL7.frozen
          have bL7l := bL7.lt
          have bX7c := bX7.cell
          have bX7f := bX7.frozen
          have bX7l := bX7.lt
          go_wp2_with (fail)
          refine calls_at (fun V8 hV => ?_)
          have kv : Up w7 V8 := by rw [hV]; (repeat (first | with_reducible exact Up.refl _ | with_reducible refine Up.alloc ?_ _ | with_reducible refine Up.drew ?_ | refine Up.setCell ?_ (by simp <;> omega) _))
          have bSv := bS7.up kv
          have bMv := bM7.up kv
          have bGv := bG7.up kv
          have bKv := bK7.up kv
          have bLv := bL7.up kv
          have bXv := bX7.up kv
          have bYv : Blk V8 (w7.heap.size) 25 #[.int .i64 0, .slice none 0 0, .slice none 0 0] := by rw [hV]; (repeat (first | with_reducible exact Blk.new' _ (by simp) _ _ | with_reducible refine Blk.alloc ?_ _ | with_reducible refine Blk.drew ?_ | refine Blk.far ?_ (by simp <;> omega) _))
          have Uv : Up w V8 := U7.trans kv
          have sav := sa7.up kv
          clear hV kv bS7 bS7c bS7f bS7l bM7 bM7c bM7f bM7l bG7 bG7c bG7f bG7l bK7 bK7c bK7f bK7l bL7 bL7c bL7f bL7l bX7 bX7c bX7f bX7l U7 sa7
          refine (HSG0.out V8).mono ?_
          rintro e w8 ⟨rfl, k8⟩
          have bS8 := bSv.up k8
          have bM8 := bMv.up k8
          have bG8 := bGv.up k8
          have bK8 := bKv.up k8
          have bL8 := bLv.up k8
          have bX8 := bXv.up k8
          have bY8 := bYv.up k8
          have U8 := Uv.trans k8
          have sa8 := sav.up k8
          clear k8 Uv bSv bMv bGv bKv bLv bXv bYv sav
          have bS8c := bS8.cell
          have bS8f := bS8.frozen
          have bS8l := bS8.lt
          have bM8c := bM8.cell
          have bM8f := bM8.frozen
          have bM8l := bM8.lt
          have bG8c := bG8.cell
          have bG8f := bG8.frozen
          have bG8l := bG8.lt
          have bK8c := bK8.cell
          have bK8f := bK8.frozen
          have bK8l := bK8.lt
          have bL8c := bL8.cell
          have bL8f := bL8.frozen
          have bL8l := bL8.lt
          have bX8c := bX8.cell
          have bX8f := bX8.frozen
          have bX8l := bX8.lt
          have bY8c := bY8.cell
          have bY8f := bY8.frozen
          have bY8l := bY8.lt
          go_wp2_with (fail)
          refine calls_at (fun V9 hV => ?_)
          have kv : Up w8 V9 := by rw [hV]; (repeat (first | with_reducible exact Up.refl _ | with_reducible refine Up.alloc ?_ _ | with_reducible refine Up.drew ?_ | refine Up.setCell ?_ (by simp <;> omega) _))
          have bSv := bS8.up kv
          have bMv := bM8.up kv
          have bGv := bG8.up kv
          have bKv := bK8.up kv
          have bLv := bL8.up kv
          have bXv := bX8.up kv
          have bYv := bY8.up kv
          have Uv : Up w V9 := U8.trans kv
          have sav := sa8.up kv
          clear hV kv bS8 bS8c bS8f bS8l bM8 bM8c bM8f bM8l bG8 bG8c bG8f bG8l bK8 bK8c bK8f bK8l bL8 bL8c bL8f bL8l bX8 bX8c bX8f bX8l bY8 bY8c bY8f bY8l U8 sa8
          refine (HMM0.out V9).mono ?_
          rintro e w9 ⟨rfl, k9⟩
          have bS9 := bSv.up k9
          have bM9 := bMv.up k9
          have bG9 := bGv.up k9
          have bK9 := bKv.up k9
          have bL9 := bLv.up k9
          have bX9 := bXv.up k9
          have bY9 := bYv.up k9
          have U9 := Uv.trans k9
          have sa9 := sav.up k9
          clear k9 Uv bSv bMv bGv bKv bLv bXv bYv sav
          have bS9c := bS9.cell
          have bS9f := bS9.frozen
          have bS9l := bS9.lt
          have bM9c := bM9.cell
          have bM9f := bM9.frozen
          have bM9l := bM9.lt
          have bG9c := bG9.cell
          have bG9f := bG9.frozen
          have bG9l := bG9.lt
          have bK9c := bK9.cell
          have bK9f := bK9.frozen
          have bK9l := bK9.lt
          have bL9c := bL9.cell
          have bL9f := bL9.frozen
          have bL9l := bL9.lt
          have bX9c := bX9.cell
          have bX9f := bX9.frozen
          have bX9l := bX9.lt
          have bY9c := bY9.cell
          have bY9f := bY9.frozen
          have bY9l := bY9.lt
          go_wp2_with (fail)
          refine calls_at (fun V10 hV => ?_)
          have kv : Up w9 V10 := by rw [hV]; (repeat (first | with_reducible exact Up.refl _ | with_reducible refine Up.alloc ?_ _ | with_reducible refine Up.drew ?_ | refine Up.setCell ?_ (by simp <;> omega) _))
          have bSv := bS9.up kv
          have bMv := bM9.up kv
          have bGv := bG9.up kv
          have bKv := bK9.up kv
          have bLv := bL9.up kv
          have bXv := bX9.up kv
          have bYv := bY9.up kv
          have Uv : Up w V10 := U9.trans kv
          have sav := sa9.up kv
          clear hV kv bS9 bS9c bS9f bS9l bM9 bM9c bM9f bM9l bG9 bG9c bG9f bG9l bK9 bK9c bK9f bK9l bL9 bL9c bL9f bL9l bX9 bX9c bX9f bX9l bY9 bY9c bY9f bY9l U9 sa9
          refine (HRR0.out V10).mono ?_
          rintro e w10 ⟨rfl, k10⟩
          have bS10 := bSv.up k10
          have bM10 := bMv.up k10
          have bG10 := bGv.up k10
          have bK10 := bKv.up k10
          have bL10 := bLv.up k10
          have bX10 := bXv.up k10
          have bY10 := bYv.up k10
          have U10 := Uv.trans k10
          have sa10 := sav.up k10
          clear k10 Uv bSv bMv bGv bKv bLv bXv bYv sav
          have bS10c := bS10.cell
          have bS10f := bS10.frozen
          have bS10l := bS10.lt
          have bM10c := bM10.cell
          have bM10f := bM10.frozen
          have bM10l := bM10.lt
          have bG10c := bG10.cell
          have bG10f := bG10.frozen
          have bG10l := bG10.lt
          have bK10c := bK10.cell
          have bK10f := bK10.frozen
          have bK10l := bK10.lt
          have bL10c := bL10.cell
          have bL10f := bL10.frozen
          have bL10l := bL10.lt
          have bX10c := bX10.cell
          have bX10f := bX10.frozen
          have bX10l := bX10.lt
          have bY10c := bY10.cell
          have bY10f := bY10.frozen
          have bY10l := bY10.lt
          go_wp2_with (fail)
          obtain ⟨W0, hW0⟩ : ∃ W0 : World, W0 = w10.drew := ⟨_, rfl⟩
          have U0 : Up W0 w10.drew := by rw [hW0]; exact Up.refl _
          have k0 : Up w10 W0 := by rw [hW0]; exact (Up.refl _).drew
          have bS0 := bS10.up k0
          have bM0 := bM10.up k0
          have bG0 := bG10.up k0
          have bK0 := bK10.up k0
          have bL0 := bL10.up k0
          have bX0 := bX10.up k0
          have bY0 := bY10.up k0
          have sa0 := sa10.up k0
          have UW0 := U10.trans k0
          clear hW0 k0 bS10 bS10c bS10f bS10l bM10 bM10c bM10f bM10l bG10 bG10c bG10f bG10l bK10 bK10c bK10f bK10l bL10 bL10c bL10f bL10l bX10 bX10c bX10f bX10l bY10 bY10c bY10f bY10l U10 sa10
          go_region_held3 (fun w' => (∀ zi, w'.cell? ⟨w.heap.size + 1, zi, none⟩ = (#[.int .i64 m.n, .slice (some P) m.n c0, .slice (some Q) m.n c1] : Array Value)[zi]?) ∧ (∀ zi, w'.cell? ⟨w.heap.size + 1 + 1, zi, none⟩ = (#[.slice Aa na ca, .slice Ba sa da] : Array Value)[zi]?))
            (exact ⟨fun zi => (Blk.up bM0 (by assumption)).cell zi, fun zi => (Blk.up bG0 (by assumption)).cell zi⟩)
            (first
              | (go_at_call 18; ((with_reducible refine (HVW.out _ (UW0.trans (by assumption))).mono ?_); rintro e wz ⟨rfl, hz⟩; have UZ := Up.trans (a := W0) (by assumption) hz))
              | (go_at_call 19; ((with_reducible refine (HVR.out _ (UW0.trans (by assumption))).mono ?_); rintro e wz ⟨rfl, hz⟩; have UZ := Up.trans (a := W0) (by assumption) hz))
              | (go_at_call 20; ((with_reducible refine (HAL.out _ _ (UW0.trans (by assumption)) (sa0.up (by assumption))).mono ?_); rintro e wz ⟨rfl, hz⟩; have UZ := Up.trans (a := W0) (by assumption) hz))
              | (go_at_call 21; ((with_reducible refine (HAR.out _ _ (UW0.trans (by assumption)) (sa0.up (by assumption))).mono ?_); rintro e wz ⟨rfl, hz⟩; have UZ := Up.trans (a := W0) (by assumption) hz)))
          all_goals
            obtain ⟨w11, hww⟩ : ∃ z : World, z = wz := ⟨_, rfl⟩
            subst hww
            have bS11 := bS0.up UZ
            have bM11 := bM0.up UZ
            have bG11 := bG0.up UZ
            have bK11 := bK0.up UZ
            have bL11 := bL0.up UZ
            have bX11 := bX0.up UZ
            have bY11 := bY0.up UZ
            have sa11 := sa0.up UZ
            have U11 := UW0.trans UZ
            clear bS0 bM0 bG0 bK0 bL0 bX0 bY0 sa0
            have bS11c := bS11.cell
            have bS11f := bS11.frozen
            have bS11l := bS11.lt
            have bM11c := bM11.cell
            have bM11f := bM11.frozen
            have bM11l := bM11.lt
            have bG11c := bG11.cell
            have bG11f := bG11.frozen
            have bG11l := bG11.lt
            have bK11c := bK11.cell
            have bK11f := bK11.frozen
            have bK11l := bK11.lt
            have bL11c := bL11.cell
            have bL11f := bL11.frozen
            have bL11l := bL11.lt
            have bX11c := bX11.cell
            have bX11f := bX11.frozen
            have bX11l := bX11.lt
            have bY11c := bY11.cell
            have bY11f := bY11.frozen
            have bY11l := bY11.lt
            go_wp2
            go_ret
            exact ⟨rfl, U11⟩
        · have HOG : Hid (∀ V, Up w V → Calls Tryz.prog 11 #[mev m.n P Q c0 c1, .slice A L.length c] V (OfY (ofG m L) (m.rch L.flatten).length L.length V)) := Lib.hid (fun V k => (HOF.out V k).mono fun e w' h => by
            rw [if_pos rfl] at h
            exact h)
          have HRG : Hid (∀ V, Up w V → Calls Tryz.prog 12 #[mev m.n P Q c0 c1, .slice A L.length c] V (OfY (ofG m L) (m.rch L.flatten).length L.length V)) := Lib.hid (fun V k => (HRF.out V k).mono fun e w' h => by
            rw [if_pos rfl] at h
            exact h)
          clear HOF HRF HSG0
          generalize (m.rch L.flatten).length = rn at *
          generalize L.length = ln at *
          generalize ofG m L = kk at *
          generalize a.1.length = na at *
          generalize a.2.length = sa at *
          go_enter Tryz.func3, Tryz.ntmps3
          go_wp2_with (fail)
          refine calls_at (fun V1 hV => ?_)
          have kv : Up w V1 := by rw [hV]; (repeat (first | with_reducible exact Up.refl _ | with_reducible refine Up.alloc ?_ _ | with_reducible refine Up.drew ?_ | refine Up.setCell ?_ (by simp <;> omega) _))
          have bSv : Blk V1 (w.heap.size) 32 #[.int .i64 m.n, .slice (some P) m.n c0, .slice (some Q) m.n c1, .slice A ln c, .slice Aa na ca, .slice Ba sa da, .int .i64 x1, .int .i64 s1] := by rw [hV]; (repeat (first | with_reducible exact Blk.new' _ (by simp) _ _ | with_reducible refine Blk.alloc ?_ _ | with_reducible refine Blk.drew ?_ | refine Blk.far ?_ (by simp <;> omega) _))
          have bMv : Blk V1 (w.heap.size + 1) 25 #[.int .i64 m.n, .slice (some P) m.n c0, .slice (some Q) m.n c1] := by rw [hV]; (repeat (first | with_reducible exact Blk.new' _ (by simp) _ _ | with_reducible refine Blk.alloc ?_ _ | with_reducible refine Blk.drew ?_ | refine Blk.far ?_ (by simp <;> omega) _))
          have bGv : Blk V1 (w.heap.size + 1 + 1) 30 #[.slice Aa na ca, .slice Ba sa da] := by rw [hV]; (repeat (first | with_reducible exact Blk.new' _ (by simp) _ _ | with_reducible refine Blk.alloc ?_ _ | with_reducible refine Blk.drew ?_ | refine Blk.far ?_ (by simp <;> omega) _))
          have Uv : Up w V1 := kv
          have sav := sa0.up kv
          clear hV kv sa0
          refine (HSH.out V1).mono ?_
          rintro e w1 ⟨rfl, k1⟩
          have bS1 := bSv.up k1
          have bM1 := bMv.up k1
          have bG1 := bGv.up k1
          have U1 := Uv.trans k1
          have sa1 := sav.up k1
          clear k1 Uv bSv bMv bGv sav
          have bS1c := bS1.cell
          have bS1f := bS1.frozen
          have bS1l := bS1.lt
          have bM1c := bM1.cell
          have bM1f := bM1.frozen
          have bM1l := bM1.lt
          have bG1c := bG1.cell
          have bG1f := bG1.frozen
          have bG1l := bG1.lt
          go_wp2_with (fail)
          refine calls_at (fun V2 hV => ?_)
          have kv : Up w1 V2 := by rw [hV]; (repeat (first | with_reducible exact Up.refl _ | with_reducible refine Up.alloc ?_ _ | with_reducible refine Up.drew ?_ | refine Up.setCell ?_ (by simp <;> omega) _))
          have bSv := bS1.up kv
          have bMv := bM1.up kv
          have bGv := bG1.up kv
          have Uv : Up w V2 := U1.trans kv
          have sav := sa1.up kv
          clear hV kv bS1 bS1c bS1f bS1l bM1 bM1c bM1f bM1l bG1 bG1c bG1f bG1l U1 sa1
          refine (HF.out V2 Uv).mono ?_
          rintro e w2 ⟨rfl, k2⟩
          have bS2 := bSv.up k2
          have bM2 := bMv.up k2
          have bG2 := bGv.up k2
          have U2 := Uv.trans k2
          have sa2 := sav.up k2
          clear k2 Uv bSv bMv bGv sav
          have bS2c := bS2.cell
          have bS2f := bS2.frozen
          have bS2l := bS2.lt
          have bM2c := bM2.cell
          have bM2f := bM2.frozen
          have bM2l := bM2.lt
          have bG2c := bG2.cell
          have bG2f := bG2.frozen
          have bG2l := bG2.lt
          go_wp2_with (fail)
          refine calls_at (fun V3 hV => ?_)
          have kv : Up w2 V3 := by rw [hV]; (repeat (first | with_reducible exact Up.refl _ | with_reducible refine Up.alloc ?_ _ | with_reducible refine Up.drew ?_ | refine Up.setCell ?_ (by simp <;> omega) _))
          have bSv := bS2.up kv
          have bMv := bM2.up kv
          have bGv := bG2.up kv
          have Uv : Up w V3 := U2.trans kv
          have sav := sa2.up kv
          clear hV kv bS2 bS2c bS2f bS2l bM2 bM2c bM2f bM2l bG2 bG2c bG2f bG2l U2 sa2
          refine (HSA.out V3 _ sav).mono ?_
          rintro e w3 ⟨rfl, k3⟩
          have bS3 := bSv.up k3
          have bM3 := bMv.up k3
          have bG3 := bGv.up k3
          have U3 := Uv.trans k3
          have sa3 := sav.up k3
          clear k3 Uv bSv bMv bGv sav
          have bS3c := bS3.cell
          have bS3f := bS3.frozen
          have bS3l := bS3.lt
          have bM3c := bM3.cell
          have bM3f := bM3.frozen
          have bM3l := bM3.lt
          have bG3c := bG3.cell
          have bG3f := bG3.frozen
          have bG3l := bG3.lt
          go_wp2_with (fail)
          refine calls_at (fun V4 hV => ?_)
          have kv : Up w3 V4 := by rw [hV]; (repeat (first | with_reducible exact Up.refl _ | with_reducible refine Up.alloc ?_ _ | with_reducible refine Up.drew ?_ | refine Up.setCell ?_ (by simp <;> omega) _))
          have bSv := bS3.up kv
          have bMv := bM3.up kv
          have bGv := bG3.up kv
          have Uv : Up w V4 := U3.trans kv
          have sav := sa3.up kv
          clear hV kv bS3 bS3c bS3f bS3l bM3 bM3c bM3f bM3l bG3 bG3c bG3f bG3l U3 sa3
          refine (HOG.out V4 Uv).mono ?_
          rintro e w4 ⟨AK, cK, BK, dK, rfl, sK4, k4⟩
          have bS4 := bSv.up k4
          have bM4 := bMv.up k4
          have bG4 := bGv.up k4
          have U4 := Uv.trans k4
          have sa4 := sav.up k4
          clear k4 Uv bSv bMv bGv sav
          have bS4c := bS4.cell
          have bS4f := bS4.frozen
          have bS4l := bS4.lt
          have bM4c := bM4.cell
          have bM4f := bM4.frozen
          have bM4l := bM4.lt
          have bG4c := bG4.cell
          have bG4f := bG4.frozen
          have bG4l := bG4.lt
          go_wp2_with (fail)
          refine calls_at (fun V5 hV => ?_)
          have kv : Up w4 V5 := by rw [hV]; (repeat (first | with_reducible exact Up.refl _ | with_reducible refine Up.alloc ?_ _ | with_reducible refine Up.drew ?_ | refine Up.setCell ?_ (by simp <;> omega) _))
          have bSv := bS4.up kv
          have bMv := bM4.up kv
          have bGv := bG4.up kv
          have bKv : Blk V5 (w4.heap.size) 30 #[.slice AK rn cK, .slice BK ln dK] := by rw [hV]; (repeat (first | with_reducible exact Blk.new' _ (by simp) _ _ | with_reducible refine Blk.alloc ?_ _ | with_reducible refine Blk.drew ?_ | refine Blk.far ?_ (by simp <;> omega) _))
          have Uv : Up w V5 := U4.trans kv
          have sav := sa4.up kv
          have sKv := sK4.up kv
          clear hV kv bS4 bS4c bS4f bS4l bM4 bM4c bM4f bM4l bG4 bG4c bG4f bG4l U4 sa4 sK4
          refine (HRG.out V5 Uv).mono ?_
          rintro e w5 ⟨AL, cL, BL, dL, rfl, sL5, k5⟩
          have bS5 := bSv.up k5
          have bM5 := bMv.up k5
          have bG5 := bGv.up k5
          have bK5 := bKv.up k5
          have U5 := Uv.trans k5
          have sa5 := sav.up k5
          have sK5 := sKv.up k5
          clear k5 Uv bSv bMv bGv bKv sav sKv
          have bS5c := bS5.cell
          have bS5f := bS5.frozen
          have bS5l := bS5.lt
          have bM5c := bM5.cell
          have bM5f := bM5.frozen
          have bM5l := bM5.lt
          have bG5c := bG5.cell
          have bG5f := bG5.frozen
          have bG5l := bG5.lt
          have bK5c := bK5.cell
          have bK5f := bK5.frozen
          have bK5l := bK5.lt
          go_wp2_with (fail)
          refine calls_at (fun V6 hV => ?_)
          have kv : Up w5 V6 := by rw [hV]; (repeat (first | with_reducible exact Up.refl _ | with_reducible refine Up.alloc ?_ _ | with_reducible refine Up.drew ?_ | refine Up.setCell ?_ (by simp <;> omega) _))
          have bSv := bS5.up kv
          have bMv := bM5.up kv
          have bGv := bG5.up kv
          have bKv := bK5.up kv
          have bLv : Blk V6 (w5.heap.size) 30 #[.slice AL rn cL, .slice BL ln dL] := by rw [hV]; (repeat (first | with_reducible exact Blk.new' _ (by simp) _ _ | with_reducible refine Blk.alloc ?_ _ | with_reducible refine Blk.drew ?_ | refine Blk.far ?_ (by simp <;> omega) _))
          have Uv : Up w V6 := U5.trans kv
          have sav := sa5.up kv
          have sKv := sK5.up kv
          have sLv := sL5.up kv
          clear hV kv bS5 bS5c bS5f bS5l bM5 bM5c bM5f bM5l bG5 bG5c bG5f bG5l bK5 bK5c bK5f bK5l U5 sa5 sK5 sL5
          refine (HPT.out V6 _ sav).mono ?_
          rintro e w6 ⟨rfl, k6⟩
          have bS6 := bSv.up k6
          have bM6 := bMv.up k6
          have bG6 := bGv.up k6
          have bK6 := bKv.up k6
          have bL6 := bLv.up k6
          have U6 := Uv.trans k6
          have sa6 := sav.up k6
          have sK6 := sKv.up k6
          have sL6 := sLv.up k6
          clear k6 Uv bSv bMv bGv bKv bLv sav sKv sLv
          have bS6c := bS6.cell
          have bS6f := bS6.frozen
          have bS6l := bS6.lt
          have bM6c := bM6.cell
          have bM6f := bM6.frozen
          have bM6l := bM6.lt
          have bG6c := bG6.cell
          have bG6f := bG6.frozen
          have bG6l := bG6.lt
          have bK6c := bK6.cell
          have bK6f := bK6.frozen
          have bK6l := bK6.lt
          have bL6c := bL6.cell
          have bL6f := bL6.frozen
          have bL6l := bL6.lt
          go_wp2_with (fail)
          refine calls_at (fun V7 hV => ?_)
          have kv : Up w6 V7 := by rw [hV]; (repeat (first | with_reducible exact Up.refl _ | with_reducible refine Up.alloc ?_ _ | with_reducible refine Up.drew ?_ | refine Up.setCell ?_ (by simp <;> omega) _))
          have bSv := bS6.up kv
          have bMv := bM6.up kv
          have bGv := bG6.up kv
          have bKv := bK6.up kv
          have bLv := bL6.up kv
          have bXv : Blk V7 (w6.heap.size) 25 #[.int .i64 0, .slice none 0 0, .slice none 0 0] := by rw [hV]; (repeat (first | with_reducible exact Blk.new' _ (by simp) _ _ | with_reducible refine Blk.alloc ?_ _ | with_reducible refine Blk.drew ?_ | refine Blk.far ?_ (by simp <;> omega) _))
          have Uv : Up w V7 := U6.trans kv
          have sav := sa6.up kv
          have sKv := sK6.up kv
          have sLv := sL6.up kv
          clear hV kv bS6 bS6c bS6f bS6l bM6 bM6c bM6f bM6l bG6 bG6c bG6f bG6l bK6 bK6c bK6f bK6l bL6 bL6c bL6f bL6l U6 sa6 sK6 sL6
          refine (HRP.out V7 _ sav).mono ?_
          rintro e w7 ⟨rfl, k7⟩
          have bS7 := bSv.up k7
          have bM7 := bMv.up k7
          have bG7 := bGv.up k7
          have bK7 := bKv.up k7
          have bL7 := bLv.up k7
          have bX7 := bXv.up k7
          have U7 := Uv.trans k7
          have sa7 := sav.up k7
          have sK7 := sKv.up k7
          have sL7 := sLv.up k7
          clear k7 Uv bSv bMv bGv bKv bLv bXv sav sKv sLv
          have bS7c := bS7.cell
          have bS7f := bS7.frozen
          have bS7l := bS7.lt
          have bM7c := bM7.cell
          have bM7f := bM7.frozen
          have bM7l := bM7.lt
          have bG7c := bG7.cell
          have bG7f := bG7.frozen
          have bG7l := bG7.lt
          have bK7c := bK7.cell
          have bK7f := bK7.frozen
          have bK7l := bK7.lt
          have bL7c := bL7.cell
          have bL7f := bL7.frozen
          have bL7l := bL7.lt
          have bX7c := bX7.cell
          have bX7f := bX7.frozen
          have bX7l := bX7.lt
          go_wp2_with (fail)
          refine calls_at (fun V8 hV => ?_)
          have kv : Up w7 V8 := by rw [hV]; (repeat (first | with_reducible exact Up.refl _ | with_reducible refine Up.alloc ?_ _ | with_reducible refine Up.drew ?_ | refine Up.setCell ?_ (by simp <;> omega) _))
          have bSv := bS7.up kv
          have bMv := bM7.up kv
          have bGv := bG7.up kv
          have bKv := bK7.up kv
          have bLv := bL7.up kv
          have bXv := bX7.up kv
          have bYv : Blk V8 (w7.heap.size) 25 #[.int .i64 0, .slice none 0 0, .slice none 0 0] := by rw [hV]; (repeat (first | with_reducible exact Blk.new' _ (by simp) _ _ | with_reducible refine Blk.alloc ?_ _ | with_reducible refine Blk.drew ?_ | refine Blk.far ?_ (by simp <;> omega) _))
          have Uv : Up w V8 := U7.trans kv
          have sav := sa7.up kv
          have sKv := sK7.up kv
          have sLv := sL7.up kv
          clear hV kv bS7 bS7c bS7f bS7l bM7 bM7c bM7f bM7l bG7 bG7c bG7f bG7l bK7 bK7c bK7f bK7l bL7 bL7c bL7f bL7l bX7 bX7c bX7f bX7l U7 sa7 sK7 sL7
          refine (HSG.out V8 _ _ sKv sLv).mono ?_
          rintro e w8 ⟨rfl, k8⟩
          have bS8 := bSv.up k8
          have bM8 := bMv.up k8
          have bG8 := bGv.up k8
          have bK8 := bKv.up k8
          have bL8 := bLv.up k8
          have bX8 := bXv.up k8
          have bY8 := bYv.up k8
          have U8 := Uv.trans k8
          have sa8 := sav.up k8
          have sK8 := sKv.up k8
          have sL8 := sLv.up k8
          clear k8 Uv bSv bMv bGv bKv bLv bXv bYv sav sKv sLv
          have bS8c := bS8.cell
          have bS8f := bS8.frozen
          have bS8l := bS8.lt
          have bM8c := bM8.cell
          have bM8f := bM8.frozen
          have bM8l := bM8.lt
          have bG8c := bG8.cell
          have bG8f := bG8.frozen
          have bG8l := bG8.lt
          have bK8c := bK8.cell
          have bK8f := bK8.frozen
          have bK8l := bK8.lt
          have bL8c := bL8.cell
          have bL8f := bL8.frozen
          have bL8l := bL8.lt
          have bX8c := bX8.cell
          have bX8f := bX8.frozen
          have bX8l := bX8.lt
          have bY8c := bY8.cell
          have bY8f := bY8.frozen
          have bY8l := bY8.lt
          go_wp2_with (fail)
          refine calls_at (fun V9 hV => ?_)
          have kv : Up w8 V9 := by rw [hV]; (repeat (first | with_reducible exact Up.refl _ | with_reducible refine Up.alloc ?_ _ | with_reducible refine Up.drew ?_ | refine Up.setCell ?_ (by simp <;> omega) _))
          have bSv := bS8.up kv
          have bMv := bM8.up kv
          have bGv := bG8.up kv
          have bKv := bK8.up kv
          have bLv := bL8.up kv
          have bXv := bX8.up kv
          have bYv := bY8.up kv
          have Uv : Up w V9 := U8.trans kv
          have sav := sa8.up kv
          have sKv := sK8.up kv
          have sLv := sL8.up kv
          clear hV kv bS8 bS8c bS8f bS8l bM8 bM8c bM8f bM8l bG8 bG8c bG8f bG8l bK8 bK8c bK8f bK8l bL8 bL8c bL8f bL8l bX8 bX8c bX8f bX8l bY8 bY8c bY8f bY8l U8 sa8 sK8 sL8
          refine (HMM0.out V9).mono ?_
          rintro e w9 ⟨rfl, k9⟩
          have bS9 := bSv.up k9
          have bM9 := bMv.up k9
          have bG9 := bGv.up k9
          have bK9 := bKv.up k9
          have bL9 := bLv.up k9
          have bX9 := bXv.up k9
          have bY9 := bYv.up k9
          have U9 := Uv.trans k9
          have sa9 := sav.up k9
          have sK9 := sKv.up k9
          have sL9 := sLv.up k9
          clear k9 Uv bSv bMv bGv bKv bLv bXv bYv sav sKv sLv
          have bS9c := bS9.cell
          have bS9f := bS9.frozen
          have bS9l := bS9.lt
          have bM9c := bM9.cell
          have bM9f := bM9.frozen
          have bM9l := bM9.lt
          have bG9c := bG9.cell
          have bG9f := bG9.frozen
          have bG9l := bG9.lt
          have bK9c := bK9.cell
          have bK9f := bK9.frozen
          have bK9l := bK9.lt
          have bL9c := bL9.cell
          have bL9f := bL9.frozen
          have bL9l := bL9.lt
          have bX9c := bX9.cell
          have bX9f := bX9.frozen
          have bX9l := bX9.lt
          have bY9c := bY9.cell
          have bY9f := bY9.frozen
          have bY9l := bY9.lt
          go_wp2_with (fail)
          refine calls_at (fun V10 hV => ?_)
          have kv : Up w9 V10 := by rw [hV]; (repeat (first | with_reducible exact Up.refl _ | with_reducible refine Up.alloc ?_ _ | with_reducible refine Up.drew ?_ | refine Up.setCell ?_ (by simp <;> omega) _))
          have bSv := bS9.up kv
          have bMv := bM9.up kv
          have bGv := bG9.up kv
          have bKv := bK9.up kv
          have bLv := bL9.up kv
          have bXv := bX9.up kv
          have bYv := bY9.up kv
          have Uv : Up w V10 := U9.trans kv
          have sav := sa9.up kv
          have sKv := sK9.up kv
          have sLv := sL9.up kv
          clear hV kv bS9 bS9c bS9f bS9l bM9 bM9c bM9f bM9l bG9 bG9c bG9f bG9l bK9 bK9c bK9f bK9l bL9 bL9c bL9f bL9l bX9 bX9c bX9f bX9l bY9 bY9c bY9f bY9l U9 sa9 sK9 sL9
          refine (HRR0.out V10).mono ?_
          rintro e w10 ⟨rfl, k10⟩
          have bS10 := bSv.up k10
          have bM10 := bMv.up k10
          have bG10 := bGv.up k10
          have bK10 := bKv.up k10
          have bL10 := bLv.up k10
          have bX10 := bXv.up k10
          have bY10 := bYv.up k10
          have U10 := Uv.trans k10
          have sa10 := sav.up k10
          have sK10 := sKv.up k10
          have sL10 := sLv.up k10
          clear k10 Uv bSv bMv bGv bKv bLv bXv bYv sav sKv sLv
          have bS10c := bS10.cell
          have bS10f := bS10.frozen
          have bS10l := bS10.lt
          have bM10c := bM10.cell
          have bM10f := bM10.frozen
          have bM10l := bM10.lt
          have bG10c := bG10.cell
          have bG10f := bG10.frozen
          have bG10l := bG10.lt
          have bK10c := bK10.cell
          have bK10f := bK10.frozen
          have bK10l := bK10.lt
          have bL10c := bL10.cell
          have bL10f := bL10.frozen
          have bL10l := bL10.lt
          have bX10c := bX10.cell
          have bX10f := bX10.frozen
          have bX10l := bX10.lt
          have bY10c := bY10.cell
          have bY10f := bY10.frozen
          have bY10l := bY10.lt
          go_wp2_with (fail)
          obtain ⟨W0, hW0⟩ : ∃ W0 : World, W0 = w10.drew := ⟨_, rfl⟩
          have U0 : Up W0 w10.drew := by rw [hW0]; exact Up.refl _
          have k0 : Up w10 W0 := by rw [hW0]; exact (Up.refl _).drew
          have bS0 := bS10.up k0
          have bM0 := bM10.up k0
          have bG0 := bG10.up k0
          have bK0 := bK10.up k0
          have bL0 := bL10.up k0
          have bX0 := bX10.up k0
          have bY0 := bY10.up k0
          have sa0 := sa10.up k0
          have sK0 := sK10.up k0
          have sL0 := sL10.up k0
          have UW0 := U10.trans k0
          clear hW0 k0 bS10 bS10c bS10f bS10l bM10 bM10c bM10f bM10l bG10 bG10c bG10f bG10l bK10 bK10c bK10f bK10l bL10 bL10c bL10f bL10l bX10 bX10c bX10f bX10l bY10 bY10c bY10f bY10l U10 sa10 sK10 sL10
          go_region_held3 (fun w' => (∀ zi, w'.cell? ⟨w.heap.size + 1, zi, none⟩ = (#[.int .i64 m.n, .slice (some P) m.n c0, .slice (some Q) m.n c1] : Array Value)[zi]?) ∧ (∀ zi, w'.cell? ⟨w.heap.size + 1 + 1, zi, none⟩ = (#[.slice Aa na ca, .slice Ba sa da] : Array Value)[zi]?))
            (exact ⟨fun zi => (Blk.up bM0 (by assumption)).cell zi, fun zi => (Blk.up bG0 (by assumption)).cell zi⟩)
            (first
              | (go_at_call 18; ((with_reducible refine (HVW.out _ (UW0.trans (by assumption))).mono ?_); rintro e wz ⟨rfl, hz⟩; have UZ := Up.trans (a := W0) (by assumption) hz))
              | (go_at_call 19; ((with_reducible refine (HVR.out _ (UW0.trans (by assumption))).mono ?_); rintro e wz ⟨rfl, hz⟩; have UZ := Up.trans (a := W0) (by assumption) hz))
              | (go_at_call 20; ((with_reducible refine (HAL.out _ _ (UW0.trans (by assumption)) (sa0.up (by assumption))).mono ?_); rintro e wz ⟨rfl, hz⟩; have UZ := Up.trans (a := W0) (by assumption) hz))
              | (go_at_call 21; ((with_reducible refine (HAR.out _ _ (UW0.trans (by assumption)) (sa0.up (by assumption))).mono ?_); rintro e wz ⟨rfl, hz⟩; have UZ := Up.trans (a := W0) (by assumption) hz)))
          all_goals
            obtain ⟨w11, hww⟩ : ∃ z : World, z = wz := ⟨_, rfl⟩
            subst hww
            have bS11 := bS0.up UZ
            have bM11 := bM0.up UZ
            have bG11 := bG0.up UZ
            have bK11 := bK0.up UZ
            have bL11 := bL0.up UZ
            have bX11 := bX0.up UZ
            have bY11 := bY0.up UZ
            have sa11 := sa0.up UZ
            have sK11 := sK0.up UZ
            have sL11 := sL0.up UZ
            have U11 := UW0.trans UZ
            clear bS0 bM0 bG0 bK0 bL0 bX0 bY0 sa0 sK0 sL0
            have bS11c := bS11.cell
            have bS11f := bS11.frozen
            have bS11l := bS11.lt
            have bM11c := bM11.cell
            have bM11f := bM11.frozen
            have bM11l := bM11.lt
            have bG11c := bG11.cell
            have bG11f := bG11.frozen
            have bG11l := bG11.lt
            have bK11c := bK11.cell
            have bK11f := bK11.frozen
            have bK11l := bK11.lt
            have bL11c := bL11.cell
            have bL11f := bL11.frozen
            have bL11l := bL11.lt
            have bX11c := bX11.cell
            have bX11f := bX11.frozen
            have bX11l := bX11.lt
            have bY11c := bY11.cell
            have bY11f := bY11.frozen
            have bY11l := bY11.lt
            go_wp2
            go_ret
            exact ⟨rfl, U11⟩
  exact key _ rfl
theorem walk (N : Int) (A0 A1 : Option Addr) (n0 n1 q0 q1 : Nat) (xs ys : List Int) (v : Value) (L : List (List Int)) (u0 u1 : Value) (a : Gr) (x1 s1 : Int) (w : World) (hx : SlOk w A0 n0 q0 xs) (hy : SlOk w A1 n1 q1 ys) (hL : K.Rw w v L) (hu : ∀ r ∈ L, ∀ y ∈ r, U64 y) (ha : GrV w (.agg #[u0, u1]) a) (hia : ∀ n ∈ a.1, NdOk n) (hx1 : I64 x1) (hb : L.flatten.length + L.length + (a.2.flatten.length + a.2.length) ≤ 1048576) :
    Calls Tryz.prog 3 #[.agg #[.int .i64 N, .slice A0 n0 q0, .slice A1 n1 q1, v, u0, u1, .int .i64 x1, .int .i64 s1]] w fun e w' => e = .returned (.bool true) ∧ Up w w' := by
  cases hf : fewb N n0 n1 L with
  | false => exact walk_no1 N A0 A1 n0 n1 q0 q1 v u0 u1 L a x1 s1 w hL (by omega) ha hia hf
  | true =>
    cases sa : smallb a with
    | false => exact walk_no2 N A0 A1 n0 n1 q0 q1 v u0 u1 L a x1 s1 w hL (by omega) ha hia hf (.inl sa)
    | true =>
      by_cases hw : 400 < x1 ∧ x1 ≤ 4096
      · exact walk_no2 N A0 A1 n0 n1 q0 q1 v u0 u1 L a x1 s1 w hL (by omega) ha hia hf (.inr ⟨sa, hw⟩)
      · obtain ⟨n, rfl, rfl, rfl, h16, h200, -⟩ := few_is hf
        obtain ⟨P, Q, rfl, rfl, hs⟩ := sits_of hx hy h16 (by omega)
        have hSa := (small_of (B := 1048576) sa ⟨hia, by omega⟩ (Nat.le_refl _)).1
        exact walk_yes ⟨n1, xs, ys⟩ P Q q0 q1 v u0 u1 L a x1 s1 w hs (sits_wf hx hy) hL ⟨fun y hy => by
          obtain ⟨r, hr, hy⟩ := List.mem_flatten.1 hy
          exact hu r hr y hy, by omega⟩ (by omega) hf ha hia hSa sa hx1 hw
theorem own : ownKnob Tryz.prog.godebug = none := by kernel_rfl
set_option maxRecDepth 100000 in
theorem contract (H : Type) (enc : TypeId × Value → H) (W : World) (base : Nat) (args : Array Value) (ds gs : List (DataW H)) (before : List MemPlace)
    (hval0 : ∀ (j : Nat) t v, Tryz.f3.params[j]? = some t → args[j]? = some v → Value.okWide Tryz.prog W .any base t v)
    (hW : DataW.Whole enc Tryz.prog Tryz.f3.params.toList Rows.viewTellsSpec.vars false W args.toList ds gs before) (hk : Rows.uptoSmall H (ds ++ gs) = true) :
    Calls Tryz.prog 3 args W fun e W' => ∃ v, e = .returned v ∧ Rows.viewTellsSpec.post enc Tryz.prog Tryz.f3 false true false false W args v W' := by
  have hval : ∀ (j : Nat) t v, Tryz.f3.params[j]? = some t → args[j]? = some v → Value.okWide Tryz.prog W .any base t v := hval0
  have hW' := hW
  obtain ⟨p, q, hA0, hV, rfl, hfz, hnd⟩ := hW
  have hA : DataW.TrodAll enc Tryz.prog W 0 (fun _ => true) true Tryz.f3.params.toList args.toList ds p := hA0
  rw [Tryz.params3] at hA hval
  obtain ⟨v0, vs0, d0, ds0, p0, q0, hargs, rfl, rfl, h0, r0⟩ := trodAll_cons hA
  obtain ⟨rfl, rfl, rfl⟩ := trodAll_nil r0
  obtain rfl : args = #[v0] := by cases args; simp_all
  obtain ⟨rfl, rfl⟩ := trodVars_none hV
  have hbk : Rows.uptoBulkAll [d0] ≤ 1048576 := of_decide_eq_true hk
  simp only [Rows.uptoBulkAll] at hbk
  clear hk
  have h0k := h0
  obtain ⟨N, A0, A1, n0, n1, q0, q1, xs, ys, vr, L, u0, u1, a, x1, s1, rfl, hx, hy, hL, hu, ha, hia, hx1, hbb⟩ := in_at (hval 0 32 v0 rfl rfl) h0
  clear hA0 hval0
  simp only [List.append_nil, List.nil_append] at hW'
  refine (walk N A0 A1 n0 n1 q0 q1 xs ys vr L u0 u1 a x1 s1 W hx hy hL hu ha hia hx1 (by omega)).mono fun e W' ⟨he, hg⟩ => ?_
  subst he
  exact ⟨_, rfl, post_below (pa := p0) (pv := []) hW' (fun _ _ _ => (trodAll_cons_mk (shut_bool Tryz.underlying4 _) trodAll_mk0))
    (fun sp hsp => by
      have t := (trodAll_cons_mk (trod_keeps (sp := sp) (by kernel_rfl) (of_decide_eq_true (by kernel_rfl)) h0k hg (fun x hx => hW'.lt x (by simp [hx])) (fun x hx => hsp x (by simp [hx]))) trodAll_mk0)
      simp only [List.append_nil, List.nil_append] at t
      exact t) (fun _ _ => rfl) (by simp)
    hg (ok_one (by kernel_rfl) rfl (okWide_bool_mk Tryz.underlying4 _))⟩

set_option maxRecDepth 100000 in
theorem lifted (os : Os) (started : os.Started) (H : Type) (enc : TypeId × Value → H) (F : Stop.Interp) :
    ReturnsInHanded {} Tryz.checked os 3 .any ((Rows.OpenSpec.upto Rows.viewTellsSpec).pre6 enc Tryz.prog Tryz.f3 Rows.viewTellsUptoRow.domain false) (((Rows.OpenSpec.upto Rows.viewTellsSpec).at F).post enc Tryz.prog Tryz.f3 false true false false) := by
  refine returnsInHanded_of_cond (C := Tryz.checked) (s := Rows.OpenSpec.upto Rows.viewTellsSpec) (k := Rows.uptoSmall) rfl own started (by kernel_rfl) Tryz.func3
    (OpenSpec.witness (enc := enc) (C := Tryz.checked) (s := Rows.OpenSpec.upto Rows.viewTellsSpec) (k := Rows.uptoSmall) rfl false ⟨#[], #[.agg #[.int .i64 0, .slice none 0 0, .slice none 0 0, .slice none 0 0, .slice none 0 0, .slice none 0 0, .int .i64 0, .int .i64 0]], []⟩ 8 (by kernel_rfl) (by kernel_rfl) (by kernel_rfl)
      (x := ([.agg [.agg [.lit (.int .i64 0), .agg [.nil, .nil]], .nil, .agg [.nil, .nil], .lit (.int .i64 0), .lit (.int .i64 0)]], [], [])) (by kernel_rfl) rfl (by kernel_rfl)) ?_
  intro W base args ds gs before hval hW _ hk _
  exact contract H enc W base args ds gs before hval hW hk

set_option maxRecDepth 100000 in
theorem over : Rows.viewTellsUptoRow.holds Tryz.pinned (Rows.OpenSpec.upto Rows.viewTellsSpec) :=
  OpenClaim.holds_of_cond 3 Tryz.f3 rfl rfl rfl rfl rfl rfl rfl ⟨rfl, rfl, rfl, rfl, rfl⟩ rfl rfl rfl rfl rfl (by kernel_rfl) Tryz.func3 (by kernel_rfl)
    (of_decide_eq_true (by kernel_rfl)) (by unfold Func.isWrapper; first | (rw [if_pos (by decide +kernel)]; kernel_rfl) | (rw [if_neg (by decide +kernel)]; exact ⟨rfl, rfl⟩))
    (fun os started H enc _ F => lifted os started H enc F)

theorem proved : Rows.ViewTellsUptoSaid :=
  over
#print axioms proved
end Go.Proofs.YtanhhkdoejnpiaaGreat.LViewTells
