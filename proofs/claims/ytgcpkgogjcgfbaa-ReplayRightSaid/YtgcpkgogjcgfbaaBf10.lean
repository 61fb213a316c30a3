/- What stands at the head of all statements on rooms: the document's example; a room that was handed in, opened. -/
import Derived.Test.YtgcpkgogjcgfbaaBf9
import Derived.Test.YtgcpkgogjcgfbaaBf9
namespace Go.Proofs.Ytgcpkgogjcgfbaa
open Go.Joins Go.ChangeShapes Go.WideShapes Go.ChangeAt Go.RowKit Go.Deep
set_option linter.unusedVariables false
set_option linter.unusedSimpArgs false

theorem cells_room : Try.prog.cellsOf 31 = 8 := by kernel_rfl
theorem cells_buf : Try.prog.cellsOf 29 = 2 := by kernel_rfl

section
variable {H : Type} {enc : TypeId × Value → H} {w : World}
theorem bump_cells {fuel : Nat} {v0 v1 v2 : Value} {x : DataW H × List MemPlace} (h : DataW.trod enc Try.prog w 0 (fun _ => true) true fuel 27 [v0, v1, v2] = some x) :
    ∃ s a l : Int, v0 = .int .i64 s ∧ v1 = .int .i64 a ∧ v2 = .int .i64 l ∧ I64 s ∧ I64 a ∧ I64 l := by
  obtain ⟨ys, n, _, _, _, hlen, hf⟩ := DataW.trod_struct Try.underlying27 h
  have f0 := hf 0 _ rfl
  have f1 := hf 1 _ rfl
  have f2 := hf 2 _ rfl
  match ys, hlen with
  | [y0, y1, y2], _ =>
    change DataW.trod enc Try.prog w 0 (fun _ => true) true n 3 (([v0, v1, v2].drop 0).take (Try.prog.cellsOf 3)) = some y0 at f0
    change DataW.trod enc Try.prog w 0 (fun _ => true) true n 3 (([v0, v1, v2].drop 1).take (Try.prog.cellsOf 3)) = some y1 at f1
    change DataW.trod enc Try.prog w 0 (fun _ => true) true n 3 (([v0, v1, v2].drop 2).take (Try.prog.cellsOf 3)) = some y2 at f2
    rw [cells_int] at f0 f1 f2
    obtain ⟨s, rfl, hs⟩ := int_open (v := v0) f0
    obtain ⟨a, rfl, ha⟩ := int_open (v := v1) f1
    obtain ⟨l, rfl, hl⟩ := int_open (v := v2) f2
    exact ⟨s, a, l, rfl, rfl, rfl, hs, ha, hl⟩
theorem buf_cells {fuel : Nat} {v0 v1 : Value} {x : DataW H × List MemPlace} (h : DataW.trod enc Try.prog w 0 (fun _ => true) true fuel 29 [v0, v1] = some x) :
    ∃ s a : Int, v0 = .int .i64 s ∧ v1 = .int .i64 a ∧ I64 s ∧ I64 a := by
  obtain ⟨ys, n, _, _, _, hlen, hf⟩ := DataW.trod_struct Try.underlying29 h
  have f0 := hf 0 _ rfl
  have f1 := hf 1 _ rfl
  match ys, hlen with
  | [y0, y1], _ =>
    change DataW.trod enc Try.prog w 0 (fun _ => true) true n 3 (([v0, v1].drop 0).take (Try.prog.cellsOf 3)) = some y0 at f0
    change DataW.trod enc Try.prog w 0 (fun _ => true) true n 3 (([v0, v1].drop 1).take (Try.prog.cellsOf 3)) = some y1 at f1
    rw [cells_int] at f0 f1
    obtain ⟨s, rfl, hs⟩ := int_open (v := v0) f0
    obtain ⟨a, rfl, ha⟩ := int_open (v := v1) f1
    exact ⟨s, a, rfl, rfl, hs, ha⟩
theorem room_cells {fuel : Nat} {v0 v1 v2 v3 v4 v5 v6 v7 : Value} {x : DataW H × List MemPlace} (h : DataW.trod enc Try.prog w 0 (fun _ => true) true fuel 31 [v0, v1, v2, v3, v4, v5, v6, v7] = some x) :
    ∃ (N : Int) (A0 A1 : Option Addr) (n0 n1 c0 c1 : Nat) (xs ys : List Int) (s a l x y : Int), [v0, v1, v2, v3, v4, v5, v6, v7] = [.int .i64 N, .slice A0 n0 c0, .slice A1 n1 c1, .int .i64 s, .int .i64 a, .int .i64 l, .int .i64 x, .int .i64 y]
      ∧ I64 N ∧ SlOk w A0 n0 c0 xs ∧ SlOk w A1 n1 c1 ys ∧ I64 s ∧ I64 a ∧ I64 l ∧ I64 x ∧ I64 y := by
  obtain ⟨ys, n, _, _, _, hlen, hf⟩ := DataW.trod_struct Try.underlying31 h
  have f0 := hf 0 _ rfl
  have f1 := hf 1 _ rfl
  have f2 := hf 2 _ rfl
  match ys, hlen with
  | [y0, y1, y2], _ =>
    change DataW.trod enc Try.prog w 0 (fun _ => true) true n 25 (([v0, v1, v2, v3, v4, v5, v6, v7].drop 0).take (Try.prog.cellsOf 25)) = some y0 at f0
    change DataW.trod enc Try.prog w 0 (fun _ => true) true n 27 (([v0, v1, v2, v3, v4, v5, v6, v7].drop 3).take (Try.prog.cellsOf 27)) = some y1 at f1
    change DataW.trod enc Try.prog w 0 (fun _ => true) true n 29 (([v0, v1, v2, v3, v4, v5, v6, v7].drop 6).take (Try.prog.cellsOf 29)) = some y2 at f2
    rw [cells_mem] at f0
    rw [cells_bump] at f1
    rw [cells_buf] at f2
    obtain ⟨N, A0, A1, n0, n1, c0, c1, xs, ys, rfl, rfl, rfl, hN, h0, h1⟩ := mem_open (v0 := v0) (v1 := v1) (v2 := v2) f0
    obtain ⟨s, a, l, rfl, rfl, rfl, hs, ha, hl⟩ := bump_cells (v0 := v3) (v1 := v4) (v2 := v5) f1
    obtain ⟨x, y, rfl, rfl, hx, hy⟩ := buf_cells (v0 := v6) (v1 := v7) f2
    exact ⟨N, A0, A1, n0, n1, c0, c1, xs, ys, s, a, l, x, y, rfl, hN, h0, h1, hs, ha, hl, hx, hy⟩
end
set_option maxRecDepth 100000 in
/-- A room that was handed in. -/
theorem room_open {H : Type} {enc : TypeId × Value → H} {w : World} {r : Reach} {b0 : Nat} {v : Value} {d : DataW H} {p : List MemPlace} (hv : Value.okWide Try.prog w r b0 31 v) (h : DataW.Trod enc Try.prog w 0 (fun _ => true) true 31 v d p) :
    ∃ (N : Int) (A0 A1 : Option Addr) (n0 n1 c0 c1 : Nat) (xs ys : List Int) (s a l x y : Int), v = rov N (.slice A0 n0 c0) (.slice A1 n1 c1) s a l x y ∧ I64 N ∧ SlOk w A0 n0 c0 xs ∧ SlOk w A1 n1 c1 ys ∧ I64 s ∧ I64 a ∧ I64 l ∧ I64 x ∧ I64 y := by
  obtain ⟨⟨k⟩, rfl, hsz⟩ := okWide_struct Try.underlying31 hv
  match k, hsz.trans cells_room with
  | [z0, z1, z2, z3, z4, z5, z6, z7], _ =>
    obtain ⟨fuel, hf⟩ := h
    obtain ⟨N, A0, A1, n0, n1, c0, c1, xs, ys, s, a, l, x, y, e, h1, h2, h3, h4, h5, h6, h7, h8⟩ := room_cells (v0 := z0) (v1 := z1) (v2 := z2) (v3 := z3) (v4 := z4) (v5 := z5) (v6 := z6) (v7 := z7) hf
    exact ⟨N, A0, A1, n0, n1, c0, c1, xs, ys, s, a, l, x, y, by rw [e], h1, h2, h3, h4, h5, h6, h7, h8⟩
set_option maxRecDepth 100000 in
/-- A head that was handed in. -/
theorem head_open {H : Type} {enc : TypeId × Value → H} {w : World} {r : Reach} {b0 : Nat} {v : Value} {d : DataW H} {p : List MemPlace} (hv : Value.okWide Try.prog w r b0 55 v) (h : DataW.Trod enc Try.prog w 0 (fun _ => true) true 55 v d p) :
    ∃ t k mp : Int, v = hdv t k mp ∧ I64 t ∧ I64 k ∧ U64 mp := by
  obtain ⟨⟨l⟩, rfl, hsz⟩ := okWide_struct Try.underlying55 hv
  match l, hsz.trans cells_head with
  | [z0, z1, z2], _ =>
    obtain ⟨fuel, hf⟩ := h
    obtain ⟨t, k, mp, rfl, rfl, rfl, h1, h2, h3⟩ := head_cells (v0 := z0) (v1 := z1) (v2 := z2) hf
    exact ⟨t, k, mp, rfl, h1, h2, h3⟩
theorem fewr_is {N : Int} {n0 n1 : Nat} {s a l x y : Int} (h : fewr N n0 n1 s a l x y = true) : N = n0 ∧ n0 = n1 ∧ 16 ≤ n0 ∧ n0 ≤ 200 ∧ rgt s a l ∧ l = N ∧ ((x = 0 ∧ y = 0) ∨ (0 ≤ x ∧ x ≤ y ∧ y ≤ a)) := by
  unfold fewr rob at h
  simp only [Bool.and_eq_true] at h
  obtain ⟨⟨h1, h2, h3, h4⟩, h5⟩ := h
  obtain ⟨a1, a2, a3, a4⟩ := of_decide_eq_true h1
  have b2 := of_decide_eq_true h2
  have b3 := of_decide_eq_true h3
  have b4 := of_decide_eq_true h4
  have b5 := of_decide_eq_true h5
  exact ⟨by omega, by omega, by omega, by omega, b2, b3, b4⟩
end Go.Proofs.Ytgcpkgogjcgfbaa
