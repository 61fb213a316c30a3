/- What a statement on heaps is handed, opened: entries, operations, answers, threads, heaps; how much there is. -/
import Derived.Test.YtddoljfkbkbfjaaGreatTa
import Derived.Test.YtddoljfkbkbfjaaGreatKa
import Derived.Deep.Matrix
import Derived.SizedLaws
namespace Go.Proofs.YtddoljfkbkbfjaaGreat.T
open G
open Go.Joins Go.ChangeShapes Go.WideShapes Go.ChangeAt Go.RowKit Go.Deep Go.Shelf Go.Maps
set_option linter.unusedVariables false
set_option linter.unusedSimpArgs false
set_option maxRecDepth 100000

instance : Inhabited Th := ⟨⟨[], 0, 0, [], [], [], false, []⟩⟩
instance : Inhabited Tv := ⟨tz⟩
instance : Inhabited Op := ⟨oz⟩

theorem fm_inv {α : Type} {cv : α → List Value} {k : Nat} (hk : ∀ x, (cv x).length = k) (k0 : 0 < k) (xs : List α) (j : Nat) (v : Value) (h : (xs.flatMap cv)[j]? = some v) : ∃ x, xs[j / k]? = some x ∧ (cv x)[j % k]? = some v := by
  have hl := fm_len hk xs
  have hj : j < xs.length * k := by
    rcases Nat.lt_or_ge j (xs.length * k) with q | q
    · exact q
    · rw [List.getElem?_eq_none (by omega)] at h; cases h
  have hq : j / k < xs.length := (Nat.div_lt_iff_lt_mul k0).2 hj
  refine ⟨xs[j / k], List.getElem?_eq_getElem hq, ?_⟩
  have e := fm_at hk xs (j / k) (j % k) _ (List.getElem?_eq_getElem hq) (Nat.mod_lt _ k0)
  rw [← e, ← h]
  congr 1
  rw [Nat.mul_comm]
  exact Nat.div_add_mod j k
theorem cells_ent : Tryz.prog.cellsOf 66 = 2 := by kernel_rfl
theorem cells_op : Tryz.prog.cellsOf 62 = 8 := by kernel_rfl
theorem cells_ans : Tryz.prog.cellsOf 56 = 3 := by kernel_rfl
theorem cells_thr : Tryz.prog.cellsOf 44 = 8 := by kernel_rfl
theorem cells_heap : Tryz.prog.cellsOf 32 = 17 := by kernel_rfl
theorem cells_head : Tryz.prog.cellsOf 60 = 3 := by kernel_rfl
theorem cells_bump : Tryz.prog.cellsOf 27 = 3 := by kernel_rfl
theorem cells_buf : Tryz.prog.cellsOf 39 = 2 := by kernel_rfl
theorem cells_bool : Tryz.prog.cellsOf 4 = 1 := by kernel_rfl
theorem cells_errno : Tryz.prog.cellsOf 30 = 1 := by kernel_rfl
theorem cells_ents : Tryz.prog.cellsOf 40 = 1 := by kernel_rfl
theorem cells_ops : Tryz.prog.cellsOf 41 = 1 := by kernel_rfl
theorem cells_anss : Tryz.prog.cellsOf 42 = 1 := by kernel_rfl
theorem cells_thrs : Tryz.prog.cellsOf 28 = 1 := by kernel_rfl
theorem cells_ints : Tryz.prog.cellsOf 29 = 1 := by kernel_rfl
theorem bytes_ent : Tryz.prog.bytesOf 66 = 16 := by kernel_rfl
theorem bytes_op : Tryz.prog.bytesOf 62 = 64 := by kernel_rfl
theorem bytes_ans : Tryz.prog.bytesOf 56 = 24 := by kernel_rfl
theorem bytes_thr : Tryz.prog.bytesOf 44 = 144 := by kernel_rfl
theorem bytes_int : Tryz.prog.bytesOf 3 = 8 := by kernel_rfl
abbrev Light {H : Type} (t : TypeId) (d : DataW H) : Prop := K.Light t d
theorem bulk_app {H : Type} (l r : List (DataW H)) : Rows.uptoBulkAll (l ++ r) = Rows.uptoBulkAll l + Rows.uptoBulkAll r := by
  induction l with
  | nil => simp [Rows.uptoBulkAll]
  | cons x l ih => simp only [List.cons_append, Rows.uptoBulkAll, ih]; omega

section
variable {H : Type} {ec : TypeId × Value → H} {w : World}
/-- A slice of structs. -/
theorem open_rc {α : Type} [Inhabited α] {T e : TypeId} {cv : α → List Value} {k b : Nat} {Ok : α → DataW H → Prop} (und : Tryz.prog.underlying T = some (.slice e)) (hc : Tryz.prog.cellsOf e = k) (hb : Tryz.prog.bytesOf e = b) (hk : ∀ x, (cv x).length = k) (k0 : 0 < k)
    (ho : ∀ {fuel : Nat} {cs : List Value} {x : DataW H × List MemPlace}, DataW.trod ec Tryz.prog w 0 (fun _ => true) true fuel e cs = some x → ∃ z, cs = cv z ∧ Ok z x.1)
    {fuel : Nat} {v : Value} {x : DataW H × List MemPlace} (h : DataW.trod ec Tryz.prog w 0 (fun _ => true) true fuel T [v] = some x) :
    ∃ (xs : List α) (Ds : List (DataW H)), Rc cv w v xs ∧ Ds.length = xs.length ∧ Rows.uptoBulkAll Ds + 1 ≤ Rows.uptoBulk x.1 ∧ xs.length + 1 ≤ Rows.uptoBulk x.1 ∧ (∀ (j : Nat) y, xs[j]? = some y → ∃ d, Ds[j]? = some d ∧ Ok y d ∧ (Light T x.1 → Light e d)) ∧ (Light T x.1 → xs.length * b ≤ 140737488351232) := by
  rcases open_slice und h with ⟨h0, rfl⟩ | ⟨a, len, cap, m, n, D, Pl, hcs, -, hl, hm, hmm, rfl, hi⟩
  · simp only [List.cons.injEq, and_true] at h0
    subst h0
    exact ⟨[], [], Rc.nil cv w, rfl, by simp [Rows.uptoBulk, Rows.uptoBulkAll], by simp [Rows.uptoBulk], fun j y q => by simp at q, fun _ => by simp⟩
  · simp only [List.cons.injEq, and_true] at hcs
    subst hcs
    simp only [if_true] at hmm
    subst hmm
    have hz : ∀ i, i < m → ∃ z : α, (∀ (q : Nat) u, (cv z)[q]? = some u → w.cell? (a.add (i * k + q)) = some u) ∧ Ok z (D i) := by
      intro i him
      obtain ⟨cs', h1, h2⟩ := hi i him
      rw [hc] at h1
      obtain ⟨z, rfl, hok⟩ := ho h2
      obtain ⟨_, _, h3⟩ := World.cells?_some h1
      refine ⟨z, fun q u hu => ?_, hok⟩
      have hq : q < k := by
        rw [← hk z]
        rcases Nat.lt_or_ge q (cv z).length with r | r
        · exact r
        · rw [List.getElem?_eq_none r] at hu; cases hu
      have e0 := h3 q hq
      rw [add_add] at e0
      rw [e0]
      exact hu
    obtain ⟨Z, hZ⟩ := choose_lt hz
    have hlen : ((List.range len).map Z).length = len := by simp
    have hbl := K.bulk_len ((List.range len).map D)
    rw [List.length_map, List.length_range] at hbl
    refine ⟨(List.range len).map Z, (List.range len).map D, ⟨some a, m, by rw [hlen], by rw [hlen]; exact hl, hm, fun q => (by cases q), fun hn => ⟨a, rfl, ?_, fun j v hv => ?_⟩⟩, by simp, ?_, ?_, fun j y hy => ?_, fun hL => ?_⟩
    · have hl0 : 0 < len := by
        rcases Nat.eq_zero_or_pos len with q | q
        · subst q; exact absurd rfl hn
        · exact q
      obtain ⟨u, hu⟩ : ∃ u, (cv (Z 0))[0]? = some u := ⟨_, List.getElem?_eq_getElem (by rw [hk]; exact k0)⟩
      have := lt_of_cell ((hZ 0 (by omega)).1 0 u hu)
      rwa [block_of_add] at this
    · obtain ⟨x, h1, h2⟩ := fm_inv hk k0 _ j v hv
      have hil : j / k < len := by
        rcases Nat.lt_or_ge (j / k) len with q | q
        · exact q
        · rw [List.getElem?_eq_none (by rw [hlen]; exact q)] at h1; cases h1
      rw [List.getElem?_map, List.getElem?_range hil] at h1
      cases h1
      have e := (hZ (j / k) (by omega)).1 (j % k) v h2
      have e2 : j / k * k + j % k = j := by rw [Nat.mul_comm]; exact Nat.div_add_mod j k
      rwa [e2] at e
    · simp only [Rows.uptoBulk]
      omega
    · rw [hlen]
      simp only [Rows.uptoBulk]
      omega
    · have hjl : j < len := by
        rcases Nat.lt_or_ge j len with q | q
        · exact q
        · rw [List.getElem?_eq_none (by rw [hlen]; exact q)] at hy; cases hy
      rw [List.getElem?_map, List.getElem?_range hjl] at hy
      cases hy
      refine ⟨D j, by rw [List.getElem?_map, List.getElem?_range hjl]; rfl, (hZ j (by omega)).2, fun hL n hn => hL n ?_⟩
      unfold DataW.weights
      rw [und]
      simp only [List.mem_cons, List.mem_append]
      exact .inr (.inl (K.weights_in (List.mem_map.2 ⟨j, List.mem_range.2 hjl, rfl⟩) n hn))
    · have := hL ((len + (m - len)) * b) (by
        unfold DataW.weights
        rw [und]
        simp only [List.mem_cons, hb, List.length_map, List.length_range]
        exact .inl trivial)
      unfold reachBytes at this
      rw [hlen]
      have h2 := Nat.mul_le_mul_right b (Nat.le_add_right len (m - len))
      omega
theorem bool_at {fuel : Nat} {v : Value} {x : DataW H × List MemPlace} (h : DataW.trod ec Tryz.prog w 0 (fun _ => true) true fuel 4 [v] = some x) : ∃ b : Bool, v = .bool b := by
  obtain ⟨b, e, _⟩ := DataW.trod_bool Tryz.underlying4 h
  simp only [List.cons.injEq, and_true] at e
  exact ⟨b, e⟩
theorem int_at {fuel : Nat} {v : Value} {x : DataW H × List MemPlace} (h : DataW.trod ec Tryz.prog w 0 (fun _ => true) true fuel 3 [v] = some x) : ∃ n : Int, v = .int .i64 n ∧ I64 n := by
  obtain ⟨n, e, _, hw⟩ := DataW.trod_int Tryz.underlying3 h
  simp only [List.cons.injEq, and_true] at e
  exact ⟨n, e, i64_of_wf hw⟩
theorem errno_at {fuel : Nat} {v : Value} {x : DataW H × List MemPlace} (h : DataW.trod ec Tryz.prog w 0 (fun _ => true) true fuel 30 [v] = some x) : ∃ n : Int, v = .int .i64 n ∧ I64 n := by
  obtain ⟨n, e, _, hw⟩ := DataW.trod_int Tryz.underlying30 h
  simp only [List.cons.injEq, and_true] at e
  exact ⟨n, e, i64_of_wf hw⟩
theorem u64_at {fuel : Nat} {v : Value} {x : DataW H × List MemPlace} (h : DataW.trod ec Tryz.prog w 0 (fun _ => true) true fuel 54 [v] = some x) : ∃ n : Int, v = .int .u64 n ∧ U64 n := by
  obtain ⟨n, e, _, hw⟩ := DataW.trod_int Tryz.underlying54 h
  simp only [List.cons.injEq, and_true] at e
  exact ⟨n, e, nn_of_wf hw, hi_of_wf hw⟩
def OkE (z : Ent) : Prop := U64 z.1 ∧ I64 z.2
def OkO (o : Op) : Prop := I64 o.kd ∧ I64 o.h ∧ I64 o.i ∧ I64 o.k ∧ U64 o.v ∧ I64 o.t ∧ I64 o.l ∧ U64 o.m
theorem word_cells {fuel : Nat} {cs : List Value} {x : DataW H × List MemPlace} (h : DataW.trod ec Tryz.prog w 0 (fun _ => true) true fuel 54 cs = some x) : ∃ z : Int, cs = wdc z ∧ U64 z := by
  obtain ⟨n, e, _, hw⟩ := DataW.trod_int Tryz.underlying54 h
  exact ⟨n, e, nn_of_wf hw, hi_of_wf hw⟩
theorem int_cells {fuel : Nat} {cs : List Value} {x : DataW H × List MemPlace} (h : DataW.trod ec Tryz.prog w 0 (fun _ => true) true fuel 3 cs = some x) : ∃ z : Int, cs = inc z ∧ I64 z := by
  obtain ⟨n, e, _, hw⟩ := DataW.trod_int Tryz.underlying3 h
  exact ⟨n, e, i64_of_wf hw⟩
theorem ent_cells {fuel : Nat} {cs : List Value} {x : DataW H × List MemPlace} (h : DataW.trod ec Tryz.prog w 0 (fun _ => true) true fuel 66 cs = some x) : ∃ z : Ent, cs = enc z ∧ OkE z := by
  obtain ⟨ys, n, _, hd, hcl, hlen, hg⟩ := DataW.trod_struct Tryz.underlying66 h
  rw [cells_ent] at hcl
  match cs, hcl with
  | [c0, c1], _ =>
    have f0 := hg 0 _ rfl
    have f1 := hg 1 _ rfl
    match ys, hlen with
    | [y0, y1], _ =>
      change DataW.trod _ Tryz.prog w 0 (fun _ => true) true n 54 (([c0, c1].drop 0).take (Tryz.prog.cellsOf 54)) = some y0 at f0
      rw [cells_u64] at f0
      change DataW.trod _ Tryz.prog w 0 (fun _ => true) true n 3 (([c0, c1].drop 1).take (Tryz.prog.cellsOf 3)) = some y1 at f1
      rw [cells_int] at f1
      obtain ⟨a, rfl, ha⟩ := u64_at (v := c0) f0
      obtain ⟨b, rfl, hb⟩ := int_at (v := c1) f1
      exact ⟨(a, b), rfl, ha, hb⟩
theorem ans_cells {fuel : Nat} {cs : List Value} {x : DataW H × List MemPlace} (h : DataW.trod ec Tryz.prog w 0 (fun _ => true) true fuel 56 cs = some x) : ∃ z : An, cs = anc z ∧ I64 z.1 ∧ U64 z.2.1 := by
  obtain ⟨ys, n, _, hd, hcl, hlen, hg⟩ := DataW.trod_struct Tryz.underlying56 h
  rw [cells_ans] at hcl
  match cs, hcl with
  | [c0, c1, c2], _ =>
    have f0 := hg 0 _ rfl
    have f1 := hg 1 _ rfl
    have f2 := hg 2 _ rfl
    match ys, hlen with
    | [y0, y1, y2], _ =>
      change DataW.trod _ Tryz.prog w 0 (fun _ => true) true n 30 (([c0, c1, c2].drop 0).take (Tryz.prog.cellsOf 30)) = some y0 at f0
      rw [cells_errno] at f0
      change DataW.trod _ Tryz.prog w 0 (fun _ => true) true n 54 (([c0, c1, c2].drop 1).take (Tryz.prog.cellsOf 54)) = some y1 at f1
      rw [cells_u64] at f1
      change DataW.trod _ Tryz.prog w 0 (fun _ => true) true n 4 (([c0, c1, c2].drop 2).take (Tryz.prog.cellsOf 4)) = some y2 at f2
      rw [cells_bool] at f2
      obtain ⟨a, rfl, ha⟩ := errno_at (v := c0) f0
      obtain ⟨b, rfl, hb⟩ := u64_at (v := c1) f1
      obtain ⟨c, rfl⟩ := bool_at (v := c2) f2
      exact ⟨(a, b, c), rfl, ha, hb⟩
set_option maxRecDepth 100000 in
theorem head_cells {fuel : Nat} {cs : List Value} {x : DataW H × List MemPlace} (h : DataW.trod ec Tryz.prog w 0 (fun _ => true) true fuel 60 cs = some x) : ∃ t l m : Int, cs = [.int .i64 t, .int .i64 l, .int .u64 m] ∧ I64 t ∧ I64 l ∧ U64 m := by
  obtain ⟨ys, n, _, hd, hcl, hlen, hg⟩ := DataW.trod_struct Tryz.underlying60 h
  rw [cells_head] at hcl
  match cs, hcl with
  | [c0, c1, c2], _ =>
    have f0 := hg 0 _ rfl
    have f1 := hg 1 _ rfl
    have f2 := hg 2 _ rfl
    match ys, hlen with
    | [y0, y1, y2], _ =>
      change DataW.trod _ Tryz.prog w 0 (fun _ => true) true n 3 (([c0, c1, c2].drop 0).take (Tryz.prog.cellsOf 3)) = some y0 at f0
      rw [cells_int] at f0
      change DataW.trod _ Tryz.prog w 0 (fun _ => true) true n 3 (([c0, c1, c2].drop 1).take (Tryz.prog.cellsOf 3)) = some y1 at f1
      rw [cells_int] at f1
      change DataW.trod _ Tryz.prog w 0 (fun _ => true) true n 54 (([c0, c1, c2].drop 2).take (Tryz.prog.cellsOf 54)) = some y2 at f2
      rw [cells_u64] at f2
      obtain ⟨a, rfl, ha⟩ := int_at (v := c0) f0
      obtain ⟨b, rfl, hb⟩ := int_at (v := c1) f1
      obtain ⟨c, rfl, hc⟩ := u64_at (v := c2) f2
      exact ⟨a, b, c, rfl, ha, hb, hc⟩
set_option maxRecDepth 100000 in
theorem op_cells {fuel : Nat} {cs : List Value} {x : DataW H × List MemPlace} (h : DataW.trod ec Tryz.prog w 0 (fun _ => true) true fuel 62 cs = some x) : ∃ o : Op, cs = opc o ∧ OkO o := by
  obtain ⟨ys, n, _, hd, hcl, hlen, hg⟩ := DataW.trod_struct Tryz.underlying62 h
  rw [cells_op] at hcl
  match cs, hcl with
  | [c0, c1, c2, c3, c4, c5, c6, c7], _ =>
    have f0 := hg 0 _ rfl
    have f1 := hg 1 _ rfl
    have f2 := hg 2 _ rfl
    have f3 := hg 3 _ rfl
    have f4 := hg 4 _ rfl
    have f5 := hg 5 _ rfl
    match ys, hlen with
    | [y0, y1, y2, y3, y4, y5], _ =>
      change DataW.trod _ Tryz.prog w 0 (fun _ => true) true n 3 (([c0, c1, c2, c3, c4, c5, c6, c7].drop 0).take (Tryz.prog.cellsOf 3)) = some y0 at f0
      change DataW.trod _ Tryz.prog w 0 (fun _ => true) true n 3 (([c0, c1, c2, c3, c4, c5, c6, c7].drop 1).take (Tryz.prog.cellsOf 3)) = some y1 at f1
      change DataW.trod _ Tryz.prog w 0 (fun _ => true) true n 3 (([c0, c1, c2, c3, c4, c5, c6, c7].drop 2).take (Tryz.prog.cellsOf 3)) = some y2 at f2
      change DataW.trod _ Tryz.prog w 0 (fun _ => true) true n 3 (([c0, c1, c2, c3, c4, c5, c6, c7].drop 3).take (Tryz.prog.cellsOf 3)) = some y3 at f3
      change DataW.trod _ Tryz.prog w 0 (fun _ => true) true n 54 (([c0, c1, c2, c3, c4, c5, c6, c7].drop 4).take (Tryz.prog.cellsOf 54)) = some y4 at f4
      change DataW.trod _ Tryz.prog w 0 (fun _ => true) true n 60 (([c0, c1, c2, c3, c4, c5, c6, c7].drop 5).take (Tryz.prog.cellsOf 60)) = some y5 at f5
      rw [cells_int] at f0 f1 f2 f3
      rw [cells_u64] at f4
      rw [cells_head] at f5
      obtain ⟨a0, rfl, h0⟩ := int_at (v := c0) f0
      obtain ⟨a1, rfl, h1⟩ := int_at (v := c1) f1
      obtain ⟨a2, rfl, h2⟩ := int_at (v := c2) f2
      obtain ⟨a3, rfl, h3⟩ := int_at (v := c3) f3
      obtain ⟨a4, rfl, h4⟩ := u64_at (v := c4) f4
      obtain ⟨t, l, m, e, ht, hl, hm⟩ := head_cells (cs := [c5, c6, c7]) f5
      simp only [List.cons.injEq, and_true] at e
      obtain ⟨rfl, rfl, rfl⟩ := e
      exact ⟨⟨a0, a1, a2, a3, a4, t, l, m⟩, rfl, h0, h1, h2, h3, h4, ht, hl, hm⟩
/-- How long rows may be, for what was handed in. -/
structure ThL (t : Th) : Prop where
  st : t.st.length * 8 ≤ 140737488351232
  lg : t.lg.length * 16 ≤ 140737488351232
  lf : t.lf.length * 64 ≤ 140737488351232
  pd : t.pd.length * 16 ≤ 140737488351232
  dn : t.dn.length * 24 ≤ 140737488351232
/-- A thread's words are words. -/
structure ThOk (t : Th) : Prop where
  st : ∀ x ∈ t.st, U64 x
  ba : I64 t.ba
  be : I64 t.be
  lg : ∀ x ∈ t.lg, OkE x
  lf : ∀ x ∈ t.lf, OkO x
  pd : ∀ x ∈ t.pd, OkE x
/-- A thread's cells, with what they lead to. -/
def ThD (w : World) (B : Nat) (u : Tv) (t : Th) (L : Prop) : Prop := ThR w u t ∧ ThOk t ∧ t.st.length + 1 ≤ B ∧ (L → ThL t)
theorem all_of {α : Type} {P : α → Prop} {xs : List α} (h : ∀ (j : Nat) y, xs[j]? = some y → P y) : ∀ x ∈ xs, P x := fun x hx => by
  obtain ⟨j, hj⟩ := List.mem_iff_getElem?.1 hx
  exact h j x hj
theorem buf_cells {fuel : Nat} {cs : List Value} {x : DataW H × List MemPlace} (h : DataW.trod ec Tryz.prog w 0 (fun _ => true) true fuel 39 cs = some x) : ∃ a b : Int, cs = [.int .i64 a, .int .i64 b] ∧ I64 a ∧ I64 b := by
  obtain ⟨ys, n, _, hd, hcl, hlen, hg⟩ := DataW.trod_struct Tryz.underlying39 h
  rw [cells_buf] at hcl
  match cs, hcl with
  | [c0, c1], _ =>
    have f0 := hg 0 _ rfl
    have f1 := hg 1 _ rfl
    match ys, hlen with
    | [y0, y1], _ =>
      change DataW.trod _ Tryz.prog w 0 (fun _ => true) true n 3 (([c0, c1].drop 0).take (Tryz.prog.cellsOf 3)) = some y0 at f0
      rw [cells_int] at f0
      change DataW.trod _ Tryz.prog w 0 (fun _ => true) true n 3 (([c0, c1].drop 1).take (Tryz.prog.cellsOf 3)) = some y1 at f1
      rw [cells_int] at f1
      obtain ⟨a, rfl, ha⟩ := int_at (v := c0) f0
      obtain ⟨b, rfl, hb⟩ := int_at (v := c1) f1
      exact ⟨a, b, rfl, ha, hb⟩
theorem bump_cells {fuel : Nat} {cs : List Value} {x : DataW H × List MemPlace} (h : DataW.trod ec Tryz.prog w 0 (fun _ => true) true fuel 27 cs = some x) : ∃ a b c : Int, cs = [.int .i64 a, .int .i64 b, .int .i64 c] ∧ I64 a ∧ I64 b ∧ I64 c := by
  obtain ⟨ys, n, _, hd, hcl, hlen, hg⟩ := DataW.trod_struct Tryz.underlying27 h
  rw [cells_bump] at hcl
  match cs, hcl with
  | [c0, c1, c2], _ =>
    have f0 := hg 0 _ rfl
    have f1 := hg 1 _ rfl
    have f2 := hg 2 _ rfl
    match ys, hlen with
    | [y0, y1, y2], _ =>
      change DataW.trod _ Tryz.prog w 0 (fun _ => true) true n 3 (([c0, c1, c2].drop 0).take (Tryz.prog.cellsOf 3)) = some y0 at f0
      rw [cells_int] at f0
      change DataW.trod _ Tryz.prog w 0 (fun _ => true) true n 3 (([c0, c1, c2].drop 1).take (Tryz.prog.cellsOf 3)) = some y1 at f1
      rw [cells_int] at f1
      change DataW.trod _ Tryz.prog w 0 (fun _ => true) true n 3 (([c0, c1, c2].drop 2).take (Tryz.prog.cellsOf 3)) = some y2 at f2
      rw [cells_int] at f2
      obtain ⟨a, rfl, ha⟩ := int_at (v := c0) f0
      obtain ⟨b, rfl, hb⟩ := int_at (v := c1) f1
      obtain ⟨c, rfl, hc⟩ := int_at (v := c2) f2
      exact ⟨a, b, c, rfl, ha, hb, hc⟩
set_option maxRecDepth 100000 in
theorem thr_cells {fuel : Nat} {cs : List Value} {x : DataW H × List MemPlace} (h : DataW.trod ec Tryz.prog w 0 (fun _ => true) true fuel 44 cs = some x) : ∃ u : Tv, cs = tvc u ∧ ∃ t, ThD w (Rows.uptoBulk x.1) u t (Light 44 x.1) := by
  obtain ⟨ys, n, _, hd, hcl, hlen, hg⟩ := DataW.trod_struct Tryz.underlying44 h
  rw [cells_thr] at hcl
  match cs, hcl with
  | [c0, c1, c2, c3, c4, c5, c6, c7], _ =>
    have f0 := hg 0 _ rfl
    have f1 := hg 1 _ rfl
    have f2 := hg 2 _ rfl
    have f3 := hg 3 _ rfl
    have f4 := hg 4 _ rfl
    have f5 := hg 5 _ rfl
    have f6 := hg 6 _ rfl
    match ys, hlen with
    | [y0, y1, y2, y3, y4, y5, y6], _ =>
      change DataW.trod _ Tryz.prog w 0 (fun _ => true) true n 22 (([c0, c1, c2, c3, c4, c5, c6, c7].drop 0).take (Tryz.prog.cellsOf 22)) = some y0 at f0
      rw [cells_words] at f0
      change DataW.trod _ Tryz.prog w 0 (fun _ => true) true n 39 (([c0, c1, c2, c3, c4, c5, c6, c7].drop 1).take (Tryz.prog.cellsOf 39)) = some y1 at f1
      rw [cells_buf] at f1
      change DataW.trod _ Tryz.prog w 0 (fun _ => true) true n 40 (([c0, c1, c2, c3, c4, c5, c6, c7].drop 3).take (Tryz.prog.cellsOf 40)) = some y2 at f2
      rw [cells_ents] at f2
      change DataW.trod _ Tryz.prog w 0 (fun _ => true) true n 41 (([c0, c1, c2, c3, c4, c5, c6, c7].drop 4).take (Tryz.prog.cellsOf 41)) = some y3 at f3
      rw [cells_ops] at f3
      change DataW.trod _ Tryz.prog w 0 (fun _ => true) true n 40 (([c0, c1, c2, c3, c4, c5, c6, c7].drop 5).take (Tryz.prog.cellsOf 40)) = some y4 at f4
      rw [cells_ents] at f4
      change DataW.trod _ Tryz.prog w 0 (fun _ => true) true n 4 (([c0, c1, c2, c3, c4, c5, c6, c7].drop 6).take (Tryz.prog.cellsOf 4)) = some y5 at f5
      rw [cells_bool] at f5
      change DataW.trod _ Tryz.prog w 0 (fun _ => true) true n 42 (([c0, c1, c2, c3, c4, c5, c6, c7].drop 7).take (Tryz.prog.cellsOf 42)) = some y6 at f6
      rw [cells_anss] at f6
      obtain ⟨r0, D0, s0, -, -, b0, k0, l0⟩ := open_rc (Ok := fun z _ => U64 z) Tryz.underlying22 cells_u64 K.bytes_u64 (cv := wdc) (k := 1) (fun _ => rfl) (by decide) (fun q => word_cells q) (v := c0) f0
      obtain ⟨a, b, e, ha, hb⟩ := buf_cells (cs := [c1, c2]) f1
      obtain ⟨r2, D2, s2, -, -, -, k2, l2⟩ := open_rc (Ok := fun z _ => OkE z) Tryz.underlying40 cells_ent bytes_ent (cv := T.enc) (k := 2) (fun _ => rfl) (by decide) (fun q => ent_cells q) (v := c3) f2
      obtain ⟨r3, D3, s3, -, -, -, k3, l3⟩ := open_rc (Ok := fun z _ => OkO z) Tryz.underlying41 cells_op bytes_op (cv := opc) (k := 8) (fun _ => rfl) (by decide) (fun q => op_cells q) (v := c4) f3
      obtain ⟨r4, D4, s4, -, -, -, k4, l4⟩ := open_rc (Ok := fun z _ => OkE z) Tryz.underlying40 cells_ent bytes_ent (cv := T.enc) (k := 2) (fun _ => rfl) (by decide) (fun q => ent_cells q) (v := c5) f4
      obtain ⟨wt, rfl⟩ := bool_at (v := c6) f5
      obtain ⟨r6, D6, s6, -, -, -, k6, l6⟩ := open_rc (Ok := fun z _ => I64 z.1 ∧ U64 z.2.1) Tryz.underlying42 cells_ans bytes_ans (cv := anc) (k := 3) (fun _ => rfl) (by decide) (fun q => ans_cells q) (v := c7) f6
      simp only [List.cons.injEq, and_true] at e
      obtain ⟨rfl, rfl⟩ := e
      obtain ⟨d, p⟩ := x
      simp only [Prod.mk.injEq] at hd
      obtain ⟨rfl, -⟩ := hd
      refine ⟨⟨c0, a, b, c3, c4, c5, wt, c7⟩, rfl, ⟨r0, a, b, r2, r3, r4, wt, r6⟩, ⟨s0, rfl, rfl, s2, s3, s4, rfl, s6⟩, ⟨all_of fun j y q => by obtain ⟨_, _, z, _⟩ := k0 j y q; exact z, ha, hb, all_of fun j y q => by obtain ⟨_, _, z, _⟩ := k2 j y q; exact z, all_of fun j y q => by obtain ⟨_, _, z, _⟩ := k3 j y q; exact z, all_of fun j y q => by obtain ⟨_, _, z, _⟩ := k4 j y q; exact z⟩, ?_, fun hL => ?_⟩
      · simp only [Rows.uptoBulk, List.map_cons, List.map_nil, Rows.uptoBulkAll]
        show r0.length + 1 ≤ _
        omega
      · have key : ∀ (i : Nat) (t : TypeId) (z : DataW H), ([22, 39, 40, 41, 40, 4, 42] : List TypeId)[i]? = some t → [y0.1, y1.1, y2.1, y3.1, y4.1, y5.1, y6.1][i]? = some z → Light t z := fun i t z h1 h2 n hn => hL n (by
          unfold DataW.weights
          rw [Tryz.underlying44]
          exact DataW.weights_mem_each (j := i) h1 h2 n hn)
        exact ⟨l0 (key 0 _ _ rfl rfl), l2 (key 2 _ _ rfl rfl), l3 (key 3 _ _ rfl rfl), l4 (key 4 _ _ rfl rfl), l6 (key 6 _ _ rfl rfl)⟩
/-- A heap that came in: what its cells are. -/
structure HpIn (w : World) (cs : List Value) (B : Nat) (L : Prop) (N : Int) (A0 A1 : Option Addr) (n0 n1 c0 c1 : Nat) (h : Hp) (vt vo : Value) (us : List Tv) : Prop where
  cs : cs = [.int .i64 N, .slice A0 n0 c0, .slice A1 n1 c1, .int .i64 h.fs, .int .i64 h.fa, .int .i64 h.fl, .int .i64 h.ts, .int .i64 h.ta, .int .i64 h.tl, .int .i64 h.sz, .int .i64 h.lg, vt, .int .i64 h.ph, .int .i64 h.sc, .int .i64 h.fp, vo, .int .i64 h.bk]
  n : I64 N
  x : SlOk w A0 n0 c0 h.m.xs
  y : SlOk w A1 n1 c1 h.m.ys
  mn : h.m.n = N.toNat
  vt : Rc tvc w vt us
  th : ThsR w us h.th
  vo : Rc inc w vo h.od
  ok : ∀ t ∈ h.th, ThOk t
  fs : I64 h.fs
  fa : I64 h.fa
  fl : I64 h.fl
  ts : I64 h.ts
  ta : I64 h.ta
  tl : I64 h.tl
  sz : I64 h.sz
  lg : I64 h.lg
  ph : I64 h.ph
  sc : I64 h.sc
  fp : I64 h.fp
  bk : I64 h.bk
  od : ∀ x ∈ h.od, I64 x
  st : (h.th.map Th.st).flatten.length + h.th.length ≤ B
  li : L → (∀ t ∈ h.th, ThL t) ∧ h.od.length * 8 ≤ 140737488351232
theorem st_bulk {us : List Tv} {ts : List Th} (hl : us.length = ts.length) {Ds : List (DataW H)} (hd : Ds.length = us.length) (h : ∀ (j : Nat) t, ts[j]? = some t → ∃ d, Ds[j]? = some d ∧ t.st.length + 1 ≤ Rows.uptoBulk d) : (ts.map Th.st).flatten.length + ts.length ≤ Rows.uptoBulkAll Ds := by
  rw [hl] at hd
  clear hl
  induction ts generalizing Ds with
  | nil => simp
  | cons t r ih =>
    match Ds, hd with
    | d :: Ds, hd =>
      obtain ⟨d', e, h1⟩ := h 0 t rfl
      simp only [List.getElem?_cons_zero, Option.some.injEq] at e
      subst e
      have := ih (Ds := Ds) (by simpa using hd) (fun j t' q => by
        obtain ⟨d2, e2, h2⟩ := h (j + 1) t' (by simpa using q)
        exact ⟨d2, by simpa using e2, h2⟩)
      simp only [List.map_cons, List.flatten_cons, List.length_append, List.length_cons, Rows.uptoBulkAll]
      omega
set_option maxRecDepth 100000 in
set_option maxHeartbeats 1000000 in
theorem heap_cells {fuel : Nat} {cs : List Value} {x : DataW H × List MemPlace} (h : DataW.trod ec Tryz.prog w 0 (fun _ => true) true fuel 32 cs = some x) : ∃ N A0 A1 n0 n1 c0 c1 hp vt vo us, HpIn w cs (Rows.uptoBulk x.1) (Light 32 x.1) N A0 A1 n0 n1 c0 c1 hp vt vo us := by
  obtain ⟨ys, n, _, hd, hcl, hlen, hg⟩ := DataW.trod_struct Tryz.underlying32 h
  rw [cells_heap] at hcl
  match cs, hcl with
  | [c0, c1, c2, c3, c4, c5, c6, c7, c8, c9, c10, c11, c12, c13, c14, c15, c16], _ =>
    have f0 := hg 0 _ rfl
    have f1 := hg 1 _ rfl
    have f2 := hg 2 _ rfl
    have f3 := hg 3 _ rfl
    have f4 := hg 4 _ rfl
    have f5 := hg 5 _ rfl
    have f6 := hg 6 _ rfl
    have f7 := hg 7 _ rfl
    have f8 := hg 8 _ rfl
    have f9 := hg 9 _ rfl
    have f10 := hg 10 _ rfl
    match ys, hlen with
    | [y0, y1, y2, y3, y4, y5, y6, y7, y8, y9, y10], _ =>
      change DataW.trod _ Tryz.prog w 0 (fun _ => true) true n 25 (([c0, c1, c2, c3, c4, c5, c6, c7, c8, c9, c10, c11, c12, c13, c14, c15, c16].drop 0).take (Tryz.prog.cellsOf 25)) = some y0 at f0
      rw [cells_mem] at f0
      change DataW.trod _ Tryz.prog w 0 (fun _ => true) true n 27 (([c0, c1, c2, c3, c4, c5, c6, c7, c8, c9, c10, c11, c12, c13, c14, c15, c16].drop 3).take (Tryz.prog.cellsOf 27)) = some y1 at f1
      rw [cells_bump] at f1
      change DataW.trod _ Tryz.prog w 0 (fun _ => true) true n 27 (([c0, c1, c2, c3, c4, c5, c6, c7, c8, c9, c10, c11, c12, c13, c14, c15, c16].drop 6).take (Tryz.prog.cellsOf 27)) = some y2 at f2
      rw [cells_bump] at f2
      change DataW.trod _ Tryz.prog w 0 (fun _ => true) true n 3 (([c0, c1, c2, c3, c4, c5, c6, c7, c8, c9, c10, c11, c12, c13, c14, c15, c16].drop 9).take (Tryz.prog.cellsOf 3)) = some y3 at f3
      rw [cells_int] at f3
      change DataW.trod _ Tryz.prog w 0 (fun _ => true) true n 3 (([c0, c1, c2, c3, c4, c5, c6, c7, c8, c9, c10, c11, c12, c13, c14, c15, c16].drop 10).take (Tryz.prog.cellsOf 3)) = some y4 at f4
      rw [cells_int] at f4
      change DataW.trod _ Tryz.prog w 0 (fun _ => true) true n 28 (([c0, c1, c2, c3, c4, c5, c6, c7, c8, c9, c10, c11, c12, c13, c14, c15, c16].drop 11).take (Tryz.prog.cellsOf 28)) = some y5 at f5
      rw [cells_thrs] at f5
      change DataW.trod _ Tryz.prog w 0 (fun _ => true) true n 3 (([c0, c1, c2, c3, c4, c5, c6, c7, c8, c9, c10, c11, c12, c13, c14, c15, c16].drop 12).take (Tryz.prog.cellsOf 3)) = some y6 at f6
      rw [cells_int] at f6
      change DataW.trod _ Tryz.prog w 0 (fun _ => true) true n 3 (([c0, c1, c2, c3, c4, c5, c6, c7, c8, c9, c10, c11, c12, c13, c14, c15, c16].drop 13).take (Tryz.prog.cellsOf 3)) = some y7 at f7
      rw [cells_int] at f7
      change DataW.trod _ Tryz.prog w 0 (fun _ => true) true n 3 (([c0, c1, c2, c3, c4, c5, c6, c7, c8, c9, c10, c11, c12, c13, c14, c15, c16].drop 14).take (Tryz.prog.cellsOf 3)) = some y8 at f8
      rw [cells_int] at f8
      change DataW.trod _ Tryz.prog w 0 (fun _ => true) true n 29 (([c0, c1, c2, c3, c4, c5, c6, c7, c8, c9, c10, c11, c12, c13, c14, c15, c16].drop 15).take (Tryz.prog.cellsOf 29)) = some y9 at f9
      rw [cells_ints] at f9
      change DataW.trod _ Tryz.prog w 0 (fun _ => true) true n 30 (([c0, c1, c2, c3, c4, c5, c6, c7, c8, c9, c10, c11, c12, c13, c14, c15, c16].drop 16).take (Tryz.prog.cellsOf 30)) = some y10 at f10
      rw [cells_errno] at f10
      obtain ⟨N, A0, A1, n0, n1, k0, k1, xs, zs, rfl, rfl, rfl, hN, hx, hy⟩ := mem_open (v0 := c0) (v1 := c1) (v2 := c2) f0
      obtain ⟨a1, a2, a3, e1, i1, i2, i3⟩ := bump_cells (cs := [c3, c4, c5]) f1
      obtain ⟨a4, a5, a6, e2, i4, i5, i6⟩ := bump_cells (cs := [c6, c7, c8]) f2
      obtain ⟨a7, rfl, i7⟩ := int_at (v := c9) f3
      obtain ⟨a8, rfl, i8⟩ := int_at (v := c10) f4
      obtain ⟨us, D, hu, hdl, hbl, -, hq, hli⟩ := open_rc (Ok := fun z d => ∃ t, ThD w (Rows.uptoBulk d) z t (Light 44 d)) Tryz.underlying28 cells_thr bytes_thr (cv := tvc) (k := 8) (fun _ => rfl) (by decide) (fun q => thr_cells q) (v := c11) f5
      obtain ⟨a9, rfl, i9⟩ := int_at (v := c12) f6
      obtain ⟨a10, rfl, i10⟩ := int_at (v := c13) f7
      obtain ⟨a11, rfl, i11⟩ := int_at (v := c14) f8
      obtain ⟨od, D2, ho, -, -, -, hoi, hol⟩ := open_rc (Ok := fun z _ => I64 z) Tryz.underlying29 cells_int bytes_int (cv := inc) (k := 1) (fun _ => rfl) (by decide) (fun q => int_cells q) (v := c15) f9
      obtain ⟨a12, rfl, i12⟩ := errno_at (v := c16) f10
      simp only [List.cons.injEq, and_true] at e1 e2
      obtain ⟨rfl, rfl, rfl⟩ := e1
      obtain ⟨rfl, rfl, rfl⟩ := e2
      obtain ⟨d, p⟩ := x
      simp only [Prod.mk.injEq] at hd
      obtain ⟨rfl, -⟩ := hd
      obtain ⟨Z, hZ⟩ := choose_lt (n := us.length) (p := fun j t => ∃ u d, us[j]? = some u ∧ D[j]? = some d ∧ ThD w (Rows.uptoBulk d) u t (Light 44 d) ∧ (Light 28 y5.1 → Light 44 d)) (fun j hj => by
        obtain ⟨d, h1, ⟨t, h2⟩, h3⟩ := hq j _ (List.getElem?_eq_getElem hj)
        exact ⟨t, _, d, List.getElem?_eq_getElem hj, h1, h2, h3⟩)
      have hat : ∀ (j : Nat) t, ((List.range us.length).map Z)[j]? = some t → j < us.length ∧ t = Z j := fun j t q => by
        have hj : j < us.length := by
          rcases Nat.lt_or_ge j us.length with r | r
          · exact r
          · rw [List.getElem?_eq_none (by simpa using r)] at q; cases q
        rw [List.getElem?_map, List.getElem?_range hj] at q
        cases q
        exact ⟨hj, rfl⟩
      refine ⟨N, A0, A1, n0, n1, k0, k1, ⟨⟨N.toNat, xs, zs⟩, a1, a2, a3, a4, a5, a6, a7, a8, (List.range us.length).map Z, a9, a10, a11, od, a12⟩, c11, c15, us, ⟨rfl, hN, hx, hy, rfl, hu, ⟨by simp, fun j u t h1 h2 => ?_⟩, ho, all_of fun j t q => ?_, i1, i2, i3, i4, i5, i6, i7, i8, i9, i10, i11, i12, all_of fun j y q => by obtain ⟨_, _, z, _⟩ := hoi j y q; exact z, ?_, fun hL => ⟨all_of fun j t q => ?_, ?_⟩⟩⟩
      · obtain ⟨hj, rfl⟩ := hat j t h2
        obtain ⟨u', d, e1, -, h3, -⟩ := hZ j hj
        rw [h1] at e1
        cases e1
        exact h3.1
      · obtain ⟨hj, rfl⟩ := hat j t q
        obtain ⟨u', d, e1, -, h3, -⟩ := hZ j hj
        exact h3.2.1
      · have := st_bulk (us := us) (ts := (List.range us.length).map Z) (by simp) hdl (fun j t q => by
          obtain ⟨hj, rfl⟩ := hat j t q
          obtain ⟨u', d, -, e2, h3, -⟩ := hZ j hj
          exact ⟨d, e2, h3.2.2.1⟩)
        simp only [Rows.uptoBulk, List.map_cons, List.map_nil, Rows.uptoBulkAll]
        show (((List.range us.length).map Z).map Th.st).flatten.length + ((List.range us.length).map Z).length ≤ _
        omega
      · obtain ⟨hj, rfl⟩ := hat j t q
        obtain ⟨u', d, -, -, h3, h4⟩ := hZ j hj
        exact h3.2.2.2 (h4 (fun n hn => hL n (by
          unfold DataW.weights
          rw [Tryz.underlying32]
          exact DataW.weights_mem_each (j := 5) rfl rfl n hn)))
      · exact hol (fun n hn => hL n (by
          unfold DataW.weights
          rw [Tryz.underlying32]
          exact DataW.weights_mem_each (j := 9) rfl rfl n hn))
end
end Go.Proofs.YtddoljfkbkbfjaaGreat.T
