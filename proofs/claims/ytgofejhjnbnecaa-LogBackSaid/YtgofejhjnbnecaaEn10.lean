/- What a statement on logs is handed, opened: entries, rows of entries, rows of rows, how many there are at most; and the document's example. -/
import Derived.Test.YtgofejhjnbnecaaEn9
import Derived.Deep.Matrix
import Derived.SizedLaws
namespace Go.Proofs.Ytgofejhjnbnecaa
open Go.Joins Go.ChangeShapes Go.WideShapes Go.ChangeAt Go.RowKit Go.Deep Go.Shelf Go.Maps
set_option linter.unusedVariables false
set_option linter.unusedSimpArgs false

/-! ### How much there is -/
theorem bulk_one {H : Type} (d : DataW H) : 1 ≤ Rows.uptoBulk d := by
  cases d with
  | lit l => cases l <;> simp [Rows.uptoBulk]
  | nil => simp [Rows.uptoBulk]
  | ptr d => simp [Rows.uptoBulk]
  | slice elems spare => simp [Rows.uptoBulk]
  | agg parts => simp [Rows.uptoBulk]
  | iface t d => simp [Rows.uptoBulk]
  | map entries => simp [Rows.uptoBulk]
  | held h => simp [Rows.uptoBulk]
theorem bulk_len {H : Type} (l : List (DataW H)) : l.length ≤ Rows.uptoBulkAll l := by
  induction l with
  | nil => simp [Rows.uptoBulkAll]
  | cons x r ih => have := bulk_one x; simp only [Rows.uptoBulkAll, List.length_cons]; omega
theorem weights_in {H : Type} {P : Program} {e : TypeId} : ∀ {ds : List (DataW H)} {d : DataW H}, d ∈ ds → ∀ n ∈ d.weights P e, n ∈ DataW.weightsAll P e ds
  | x :: r, d, h, n, hn => by
    simp only [DataW.weightsAll, List.mem_append]
    rcases List.mem_cons.1 h with rfl | h
    · exact .inl hn
    · exact .inr (weights_in h n hn)
theorem bytes_ent : Try.prog.bytesOf 25 = 16 := by kernel_rfl
theorem bytes_ents : Try.prog.bytesOf 22 = 24 := by kernel_rfl
theorem cells_ent : Try.prog.cellsOf 25 = 2 := by kernel_rfl
theorem cells_ents : Try.prog.cellsOf 22 = 1 := by kernel_rfl
theorem cells_rows : Try.prog.cellsOf 26 = 1 := by kernel_rfl
/-- All weights are within reach. -/
def Light {H : Type} (t : TypeId) (d : DataW H) : Prop := ∀ n ∈ d.weights Try.prog t, n ≤ reachBytes
theorem bulk_app {H : Type} (l r : List (DataW H)) : Rows.uptoBulkAll (l ++ r) = Rows.uptoBulkAll l + Rows.uptoBulkAll r := by
  induction l with
  | nil => simp [Rows.uptoBulkAll]
  | cons x l ih => simp only [List.cons_append, Rows.uptoBulkAll, ih]; omega
theorem sum_bulk {H : Type} (D : Nat → DataW H) (Z : Nat → List Ent) : ∀ n, (∀ r, r < n → (Z r).length + 1 ≤ Rows.uptoBulk (D r)) → ((List.range n).map Z).flatten.length + n ≤ Rows.uptoBulkAll ((List.range n).map D)
  | 0, _ => by simp [Rows.uptoBulkAll]
  | n + 1, h => by
    have ih := sum_bulk D Z n (fun r hr => h r (by omega))
    have h1 := h n (by omega)
    rw [List.range_succ, List.map_append, List.map_append, bulk_app]
    simp only [List.map_cons, List.map_nil, Rows.uptoBulkAll, List.flatten_append, List.length_append, List.flatten_cons, List.flatten_nil, List.append_nil]
    omega
theorem evs_inv : ∀ (xs : List Ent) (j : Nat) (v : Value), (evs xs)[j]? = some v → ∃ i x, xs[i]? = some x ∧ ((j = i * 2 ∧ v = .int .u64 x.1) ∨ (j = i * 2 + 1 ∧ v = .int .i64 x.2))
  | [], j, v, h => by simp [evs] at h
  | y :: r, 0, v, h => ⟨0, y, rfl, .inl ⟨rfl, by simpa [evs] using h.symm⟩⟩
  | y :: r, 1, v, h => ⟨0, y, rfl, .inr ⟨rfl, by simpa [evs] using h.symm⟩⟩
  | y :: r, j + 2, v, h => by
    obtain ⟨i, x, h1, h2⟩ := evs_inv r j v (by simpa [evs] using h)
    refine ⟨i + 1, x, by simpa using h1, ?_⟩
    rcases h2 with ⟨h2, h3⟩ | ⟨h2, h3⟩
    · exact .inl ⟨by omega, h3⟩
    · exact .inr ⟨by omega, h3⟩

/-! ### Opened -/
section
variable {H : Type} {enc : TypeId × Value → H} {w : World}
theorem int_at {fuel : Nat} {v : Value} {x : DataW H × List MemPlace} (h : DataW.trod enc Try.prog w 0 (fun _ => true) true fuel 3 [v] = some x) : ∃ n : Int, v = .int .i64 n ∧ I64 n := by
  obtain ⟨n, e, _, hw⟩ := DataW.trod_int Try.underlying3 h
  simp only [List.cons.injEq, and_true] at e
  exact ⟨n, e, i64_of_wf hw⟩
theorem u64_at {fuel : Nat} {v : Value} {x : DataW H × List MemPlace} (h : DataW.trod enc Try.prog w 0 (fun _ => true) true fuel 23 [v] = some x) : ∃ n : Int, v = .int .u64 n ∧ U64 n := by
  obtain ⟨n, e, _, hw⟩ := DataW.trod_int Try.underlying23 h
  simp only [List.cons.injEq, and_true] at e
  exact ⟨n, e, nn_of_wf hw, hi_of_wf hw⟩
theorem ent_cells {fuel : Nat} {cs : List Value} {x : DataW H × List MemPlace} (h : DataW.trod enc Try.prog w 0 (fun _ => true) true fuel 25 cs = some x) : ∃ z : Ent, cs = [.int .u64 z.1, .int .i64 z.2] ∧ OkE z := by
  obtain ⟨ys, n, _, hd, hcl, hlen, hg⟩ := DataW.trod_struct Try.underlying25 h
  rw [cells_ent] at hcl
  match cs, hcl with
  | [c0, c1], _ =>
    have f0 := hg 0 _ rfl
    have f1 := hg 1 _ rfl
    match ys, hlen with
    | [y0, y1], _ =>
      change DataW.trod enc Try.prog w 0 (fun _ => true) true n 23 (([c0, c1].drop 0).take (Try.prog.cellsOf 23)) = some y0 at f0
      rw [cells_u64] at f0
      change DataW.trod enc Try.prog w 0 (fun _ => true) true n 3 (([c0, c1].drop 1).take (Try.prog.cellsOf 3)) = some y1 at f1
      rw [cells_int] at f1
      obtain ⟨a, rfl, ha⟩ := u64_at (v := c0) f0
      obtain ⟨b, rfl, hb⟩ := int_at (v := c1) f1
      exact ⟨(a, b), rfl, ha, hb⟩
theorem ents_sl {fuel : Nat} {v : Value} {x : DataW H × List MemPlace} (h : DataW.trod enc Try.prog w 0 (fun _ => true) true fuel 22 [v] = some x) :
    ∃ xs, Sl w v xs ∧ (∀ y ∈ xs, OkE y) ∧ xs.length + 1 ≤ Rows.uptoBulk x.1 ∧ (Light 22 x.1 → xs.length ≤ 8796093021952) := by
  rcases open_slice Try.underlying22 h with ⟨h0, rfl⟩ | ⟨a, len, cap, m, n, D, Pl, hcs, -, hl, hm, hmm, rfl, hi⟩
  · simp only [List.cons.injEq, and_true] at h0
    subst h0
    exact ⟨[], Sl.nil w, fun y hy => (by cases hy), by simp [Rows.uptoBulk], fun _ => by simp⟩
  · simp only [List.cons.injEq, and_true] at hcs
    subst hcs
    simp only [if_true] at hmm
    subst hmm
    have hz : ∀ i, i < m → ∃ z : Ent, (w.cell? (a.add (i * 2)) = some (.int .u64 z.1) ∧ w.cell? (a.add (i * 2 + 1)) = some (.int .i64 z.2)) ∧ OkE z := by
      intro i him
      obtain ⟨cs', h1, h2⟩ := hi i him
      rw [cells_ent] at h1
      obtain ⟨z, rfl, hok⟩ := ent_cells h2
      obtain ⟨_, _, h3⟩ := World.cells?_some h1
      have e0 := h3 0 (by omega)
      have e1 := h3 1 (by omega)
      rw [Addr.add_zero'] at e0
      rw [add_add] at e1
      exact ⟨z, ⟨e0, e1⟩, hok⟩
    obtain ⟨Z, hZ⟩ := choose_lt hz
    have hlen : ((List.range len).map Z).length = len := by simp
    refine ⟨(List.range len).map Z, ⟨some a, m, by rw [hlen], by rw [hlen]; exact hl, hm, fun q => (by cases q), hlen.symm ▸ rfl, fun hn => ⟨a, rfl, ?_, fun j v hv => ?_⟩⟩, fun y hy => ?_, ?_, fun hL => ?_⟩
    · rw [hlen] at hn
      have := lt_of_cell (hZ 0 (by omega)).1.1
      rwa [block_of_add] at this
    · obtain ⟨i, x, h1, h2⟩ := evs_inv _ j v hv
      have hil : i < len := by
        rcases Nat.lt_or_ge i len with q | q
        · exact q
        · rw [List.getElem?_eq_none (by rw [hlen]; exact q)] at h1; cases h1
      rw [List.getElem?_map, List.getElem?_range hil] at h1
      cases h1
      rcases h2 with ⟨rfl, rfl⟩ | ⟨rfl, rfl⟩
      · exact (hZ i (by omega)).1.1
      · exact (hZ i (by omega)).1.2
    · obtain ⟨i, hi', rfl⟩ := List.mem_map.1 hy
      exact (hZ i (by have := List.mem_range.1 hi'; omega)).2
    · rw [hlen]
      simp only [Rows.uptoBulk]
      have := bulk_len ((List.range len).map D)
      rw [List.length_map, List.length_range] at this
      omega
    · have := hL ((len + (m - len)) * 16) (by
        unfold DataW.weights
        rw [Try.underlying22]
        simp only [List.mem_cons, bytes_ent, List.length_map, List.length_range]
        exact .inl trivial)
      unfold reachBytes at this
      rw [hlen]
      omega
theorem rows_rw {fuel : Nat} {v : Value} {x : DataW H × List MemPlace} (h : DataW.trod enc Try.prog w 0 (fun _ => true) true fuel 26 [v] = some x) :
    ∃ L, Rw w v L ∧ L.flatten.length + L.length ≤ Rows.uptoBulk x.1 := by
  rcases open_slice1 Try.underlying26 cells_ents h with ⟨h0, rfl⟩ | ⟨a, len, cap, m, n, V, D, Pl, hcs, -, hl, hm, hmm, rfl, hi⟩
  · simp only [List.cons.injEq, and_true] at h0
    subst h0
    exact ⟨[], Rw.nil w, by simp [Rows.uptoBulk]⟩
  · simp only [List.cons.injEq, and_true] at hcs
    subst hcs
    simp only [if_true] at hmm
    subst hmm
    obtain ⟨Z, hZ⟩ := choose_lt (α := List Ent) (n := m) (p := fun i xs => Sl w (V i) xs ∧ xs.length + 1 ≤ Rows.uptoBulk (D i)) (fun i him => by
      obtain ⟨xs, h1, _, h2, _⟩ := ents_sl (hi i him).2
      exact ⟨xs, h1, h2⟩)
    have hlen : ((List.range len).map Z).length = len := by simp
    refine ⟨(List.range len).map Z, ⟨some a, m, by rw [hlen], by rw [hlen]; exact hl, hm, fun q => (by cases q), fun hp => ⟨a, rfl, ?_, fun j xs hj => ?_⟩⟩, ?_⟩
    · rw [hlen] at hp
      have := lt_of_cell (hi 0 (by omega)).1
      rwa [block_of_add] at this
    · have hjl : j < len := by
        rcases Nat.lt_or_ge j len with q | q
        · exact q
        · rw [List.getElem?_eq_none (by rw [hlen]; exact q)] at hj; cases hj
      rw [List.getElem?_map, List.getElem?_range hjl] at hj
      cases hj
      exact ⟨_, (hi j (by omega)).1, (hZ j (by omega)).1⟩
    · have hs := sum_bulk D Z len (fun r hr => (hZ r (by omega)).2)
      rw [hlen]
      simp only [Rows.uptoBulk]
      omega
set_option maxRecDepth 100000 in
theorem ents_at {r : Reach} {b0 : Nat} {v : Value} {d : DataW H} {p : List MemPlace} (hv : Value.okWide Try.prog w r b0 22 v) (h : DataW.Trod enc Try.prog w 0 (fun _ => true) true 22 v d p) :
    ∃ xs, Sl w v xs ∧ (∀ y ∈ xs, OkE y) ∧ xs.length + 1 ≤ Rows.uptoBulk d ∧ (Light 22 d → xs.length ≤ 8796093021952) := by
  obtain ⟨a, len, cap, rfl⟩ := okWide_slice Try.underlying22 hv
  obtain ⟨fuel, hf⟩ := h
  exact ents_sl (x := (d, p)) hf
set_option maxRecDepth 100000 in
theorem rows_at {r : Reach} {b0 : Nat} {v : Value} {d : DataW H} {p : List MemPlace} (hv : Value.okWide Try.prog w r b0 26 v) (h : DataW.Trod enc Try.prog w 0 (fun _ => true) true 26 v d p) :
    ∃ L, Rw w v L ∧ L.flatten.length + L.length ≤ Rows.uptoBulk d := by
  obtain ⟨a, len, cap, rfl⟩ := okWide_slice Try.underlying26 hv
  obtain ⟨fuel, hf⟩ := h
  exact rows_rw (x := (d, p)) hf
set_option maxRecDepth 100000 in
theorem ent_at {r : Reach} {b0 : Nat} {v : Value} {d : DataW H} {p : List MemPlace} (hv : Value.okWide Try.prog w r b0 25 v) (h : DataW.Trod enc Try.prog w 0 (fun _ => true) true 25 v d p) :
    ∃ z : Ent, v = ev z ∧ OkE z := by
  obtain ⟨⟨l⟩, rfl, hsz⟩ := okWide_struct Try.underlying25 hv
  obtain ⟨fuel, hf⟩ := h
  obtain ⟨z, hz, hok⟩ := ent_cells (x := (d, p)) (cs := l) hf
  exact ⟨z, by rw [hz], hok⟩
end

/-! ### The example -/
set_option maxHeartbeats 2000000 in
theorem shown_any (w : World) : Calls Try.prog 10 #[] w fun e w' => e = .returned (.bool true) ∧ Up w w' := by
  have ho := Lib.hid (fun (W : World) (k : Up w W) (h : Blk W w.heap.size 25 (evs [(5, 0), (5, 1), (5, 0)]).toArray) => once_any (.slice (some ⟨w.heap.size, 0, none⟩) 3 3) [(5, 0), (5, 1), (5, 0)] W ⟨_, 3, rfl, by simp, by unfold maxLen; simp, fun q => (by cases q), rfl, fun _ => ⟨_, rfl, row_of_blk h⟩⟩ (fun x hx => by
    simp only [List.mem_cons, List.not_mem_nil, or_false] at hx
    rcases hx with rfl | rfl | rfl <;> (constructor <;> simp [U64, I64])) (by simp))
  rw [show onc [(5, 0), (5, 1), (5, 0)] = [(5, 1), (5, 0)] from by decide] at ho
  have ho := Lib.hid ho.out
  go_enter Try.func10, Try.ntmps10
  go_wp2_with (fail)
  refine (ho.out _ ((Up.refl w).alloc _) (Blk.new w _ _)).mono ?_
  rintro e w1 ⟨v, rfl, hl, hU⟩
  have hU1 := ((Up.refl w).alloc (.cells (evs [(5, 0), (5, 1), (5, 0)]).toArray 25)).trans hU
  obtain ⟨g, cap, rfl⟩ := ownsRow_succ (k := 1) hl
  have hr := (Sl.of_lo hl).rd.2 (by simp)
  obtain ⟨p, e, hrow⟩ := hr
  cases e
  have h0 := hrow.2 0 _ rfl
  have h1 := hrow.2 1 _ rfl
  have h2 := hrow.2 2 _ rfl
  have h3 := hrow.2 3 _ rfl
  rw [add_zero'] at h0 h1 h2 h3
  clear hrow hl hU ho
  go_wp2_with (fail)
  go_ret
  exact ⟨rfl, hU1⟩
end Go.Proofs.Ytgofejhjnbnecaa
