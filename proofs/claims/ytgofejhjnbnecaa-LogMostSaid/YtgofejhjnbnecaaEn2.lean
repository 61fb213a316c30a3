/- Appends of entries; slices.Clone; a log's first entry, and one more (package log: First, Add; the document's First and Add): contracts. -/
import Derived.Test.YtgofejhjnbnecaaEn1
import Derived.Lib.SliceRun
namespace Go.Proofs.Ytgofejhjnbnecaa
open Go.Joins Go.ChangeShapes Go.WideShapes Go.ChangeAt Go.RowKit Go.Deep Go.Shelf Go.Maps
set_option linter.unusedVariables false
set_option linter.unusedSimpArgs false

theorem info3 : ∃ i0, Try.prog.info? 25 = some i0 ∧ i0.zero = some (.agg #[.int .u64 0, .int .i64 0]) ∧ i0.size = 2 ∧ i0.bytes = 16 := info_parts info_ent
/-- An append of nothing onto nothing. -/
theorem run_nothing (A B : Option Addr) (c : Nat) (ty : TypeId) (w : World) : (Builtin.append_ #[22, 22] ty #[.slice A 0 0, .slice B 0 c]).run Try.prog w = .ok (.slice A 0 0) w := by
  obtain ⟨i0, hi, hz0, hz1, hz2⟩ := info3
  cases A <;> cases B <;> simp [Builtin.append_, run_underlying Try.underlying22, sizeOf, typeInfo, hi, Builtin.lenOf, Builtin.firstCells, loadCells, loadCellsFrom, storeCells]
/-- A row of as many entries as it is cut to takes more: it moves to a new block. -/
theorem run_more {w : World} (ty : TypeId) (A : Option Addr) (xs : List Ent) (n : Nat) (hx : Rd w A n xs) (p : Addr) (ys : List Ent) (m c : Nat) (hyl : ys.length = m) (hyr : Row w p ys) (hp : 0 < m) (hb : n + m ≤ 8796093022208) :
    ∃ v' w', (Builtin.append_ #[22, 22] ty #[.slice A n n, .slice (some p) m c]).run Try.prog w = .ok v' w' ∧ Lo w' w.heap.size v' (xs ++ ys) ∧ Up w w' := by
  subst hyl
  have hxl := hx.1
  subst hxl
  obtain ⟨i0, hi, hz0, hz1, hz2⟩ := info3
  have fin : ∀ v' w', w'.ownsRow w.heap.size 25 2 v' (xs.length + ys.length) (evs xs ++ evs ys) → w.grownBy w' none → Lo w' w.heap.size v' (xs ++ ys) ∧ Up w w' := fun v' w' h1 h2 => by
    refine ⟨?_, Up.grown (Up.refl w) h2 (fun k e => by cases e)⟩
    unfold Lo
    rw [List.length_append, evs_app]
    exact h1
  cases A with
  | none =>
    have h0 : xs.length = 0 := by
      rcases Nat.eq_zero_or_pos xs.length with q | q
      · exact q
      · obtain ⟨p', e2, _⟩ := hx.2 q
        cases e2
    obtain rfl := List.eq_nil_of_length_eq_zero h0
    obtain ⟨v', w', hrun, r1, r2, _⟩ := run_append_own (P := Try.prog) w w.heap.size 22 ty 25 i0 _ 2 16 Try.underlying22 hi hz0 hz1 hz2 rfl (by decide) (.slice none 0 0) 0 [] (World.ownsRow_nil w _ _ 2) p ys.length c (evs ys) (evs_len ys) hyr.2 (evs_one ys) (by unfold maxLen; omega) (by omega) (Nat.le_refl _)
    exact ⟨v', w', hrun, fin v' w' r1 (by simpa [Value.ownBlock] using r2)⟩
  | some a =>
    have hl : ∀ j u, (evs xs)[j]? = some u → w.cell? (a.add j) = some u := fun j u hj => by
      have hl : 0 < xs.length := by
        rcases Nat.eq_zero_or_pos xs.length with q | q
        · rw [List.eq_nil_of_length_eq_zero q] at hj
          cases hj
        · exact q
      obtain ⟨p', e2, hr⟩ := hx.2 hl
      cases e2
      exact hr.2 j u hj
    obtain ⟨v', w', hrun, r1, r2⟩ := run_append_arg_grows (P := Try.prog) w 22 ty 25 i0 _ 2 16 Try.underlying22 hi hz0 hz1 hz2 rfl (by decide) a xs.length xs.length (evs xs) (evs_len xs) hl p ys.length c (evs ys) (evs_len ys) hyr.2 (by omega) (by unfold maxLen; omega) (by omega)
    exact ⟨v', w', hrun, fin v' w' r1 r2⟩
/-- A row of the call's own takes more. -/
theorem run_own {w : World} (ty : TypeId) (n₀ : Nat) (v : Value) (xs : List Ent) (hx : Lo w n₀ v xs) (p : Addr) (ys : List Ent) (m c : Nat) (hyl : ys.length = m) (hyr : Row w p ys) (hp : 0 < m) (hb : xs.length + m ≤ 8796093022208) (hbase : n₀ ≤ w.heap.size) :
    ∃ g cap w', (Builtin.append_ #[22, 22] ty #[v, .slice (some p) m c]).run Try.prog w = .ok (.slice (some ⟨g, 0, none⟩) (xs.length + m) cap) w' ∧ Lo w' n₀ (.slice (some ⟨g, 0, none⟩) (xs.length + m) cap) (xs ++ ys) ∧ w.grownBy w' v.ownBlock ∧ (v.ownBlock = some g ∨ g = w.heap.size) := by
  subst hyl
  obtain ⟨i0, hi, hz0, hz1, hz2⟩ := info3
  obtain ⟨g, cap, w', hr, h2, h3, h4, h5⟩ := run_append_lies (P := Try.prog) w 22 ty n₀ 25 i0 _ 2 16 Try.underlying22 hi hz0 hz1 hz2 rfl (by decide) v xs.length (evs xs) hx p ys.length c (evs ys) (evs_len ys) hyr.2 (evs_one ys) hp (by unfold maxLen; omega) (by omega) hbase w.heap.size rfl
  refine ⟨g, cap, w', hr, ?_, h3, h4⟩
  unfold Lo
  rw [List.length_append, evs_app]
  exact h2
section
variable {w : World} {ops : Array Oper} {rest : List Oper} {o : Oper} {a : Act} {K : Act → World → Prop} {Q : Exit → Act → World → Prop} {E : Prop}
theorem wp_app {x y v : Value} {w' : World} (s t : Operand) (ho : o.op = .call { callee := .builtin .append, args := #[s, t], argTypes := #[22, 22] }) (hs : a.eval s = x) (ht : a.eval t = y)
    (hr : (Builtin.append_ #[22, 22] o.type #[x, y]).run Try.prog w = .ok v w') (h : K (a.put o.dst v) w') : Oper.wp Try.prog o a w K Q := by
  unfold Oper.wp execOp
  simp only [ho, resolve, invoke, builtin, Sem.run_bind, Sem.run_pure, Result.andThen_ok, List.map_toArray, List.map_cons, List.map_nil, hs, ht, hr]
  exact h
theorem wpList_app (hgd : o.guard = none) {x y v : Value} {w' : World} (s t : Operand) (ho : o.op = .call { callee := .builtin .append, args := #[s, t], argTypes := #[22, 22] }) (hs : a.eval s = x) (ht : a.eval t = y)
    (hr : (Builtin.append_ #[22, 22] o.type #[x, y]).run Try.prog w = .ok v w') (h : wpList Try.prog ops Q rest (a.put o.dst v) w') : wpList Try.prog ops Q (o :: rest) a w :=
  wpList_plain hgd fun K hK => wp_app s t ho hs ht hr (hK _ _ h)
theorem step_app (hgd : o.guard = none) {x y v : Value} {w' : World} (s t : Operand) (ho : o.op = .call { callee := .builtin .append, args := #[s, t], argTypes := #[22, 22] }) (hs : a.eval s = x) (ht : a.eval t = y)
    (hr : (Builtin.append_ #[22, 22] o.type #[x, y]).run Try.prog w = .ok v w') (h : K (a.put o.dst v) w') : if Region.wanted o (yielded ops a.tmps) = true then Oper.wp Try.prog o a w K Q else E := by
  have hw : Region.wanted o (yielded ops a.tmps) = true := by simp [Region.wanted, hgd]
  rw [if_pos hw]
  exact wp_app s t ho hs ht hr h
theorem wpList_nothing (hgd : o.guard = none) (s x : Operand) (ho : o.op = .call { callee := .builtin .append, args := #[s, x], argTypes := #[22, 22] })
    (A B : Option Addr) (c : Nat) (hs : a.eval s = .slice A 0 0) (hx : a.eval x = .slice B 0 c) (h : wpList Try.prog ops Q rest (a.put o.dst (.slice A 0 0)) w) : wpList Try.prog ops Q (o :: rest) a w :=
  wpList_app hgd s x ho hs hx (run_nothing A B c _ w) h
theorem step_nothing (hgd : o.guard = none) (s x : Operand) (ho : o.op = .call { callee := .builtin .append, args := #[s, x], argTypes := #[22, 22] })
    (A B : Option Addr) (c : Nat) (hs : a.eval s = .slice A 0 0) (hx : a.eval x = .slice B 0 c) (h : K (a.put o.dst (.slice A 0 0)) w) : if Region.wanted o (yielded ops a.tmps) = true then Oper.wp Try.prog o a w K Q else E :=
  step_app hgd s x ho hs hx (run_nothing A B c _ w) h
theorem wpList_more (hgd : o.guard = none) (s x : Operand) (ho : o.op = .call { callee := .builtin .append, args := #[s, x], argTypes := #[22, 22] })
    (A : Option Addr) (xs : List Ent) (n : Nat) (hs : a.eval s = .slice A n n) (hx : Rd w A n xs) (p : Addr) (ys : List Ent) (m c : Nat) (hy : a.eval x = .slice (some p) m c) (hyl : ys.length = m) (hyr : Row w p ys) (hp : 0 < m) (hb : n + m ≤ 8796093022208)
    (h : ∀ v' w', Lo w' w.heap.size v' (xs ++ ys) → Up w w' → wpList Try.prog ops Q rest (a.put o.dst v') w') : wpList Try.prog ops Q (o :: rest) a w := by
  obtain ⟨v', w', hr, h1, h2⟩ := run_more o.type A xs n hx p ys m c hyl hyr hp hb
  exact wpList_app hgd s x ho hs hy hr (h v' w' h1 h2)
theorem step_more (hgd : o.guard = none) (s x : Operand) (ho : o.op = .call { callee := .builtin .append, args := #[s, x], argTypes := #[22, 22] })
    (A : Option Addr) (xs : List Ent) (n : Nat) (hs : a.eval s = .slice A n n) (hx : Rd w A n xs) (p : Addr) (ys : List Ent) (m c : Nat) (hy : a.eval x = .slice (some p) m c) (hyl : ys.length = m) (hyr : Row w p ys) (hp : 0 < m) (hb : n + m ≤ 8796093022208)
    (h : ∀ v' w', Lo w' w.heap.size v' (xs ++ ys) → Up w w' → K (a.put o.dst v') w') : if Region.wanted o (yielded ops a.tmps) = true then Oper.wp Try.prog o a w K Q else E := by
  obtain ⟨v', w', hr, h1, h2⟩ := run_more o.type A xs n hx p ys m c hyl hyr hp hb
  exact step_app hgd s x ho hs hy hr (h v' w' h1 h2)
theorem wpList_own (hgd : o.guard = none) (s x : Operand) (ho : o.op = .call { callee := .builtin .append, args := #[s, x], argTypes := #[22, 22] })
    (n₀ : Nat) (v : Value) (xs : List Ent) (hs : a.eval s = v) (hx : Lo w n₀ v xs) (p : Addr) (ys : List Ent) (m c : Nat) (hy : a.eval x = .slice (some p) m c) (hyl : ys.length = m) (hyr : Row w p ys) (hp : 0 < m) (hb : xs.length + m ≤ 8796093022208) (hbase : n₀ ≤ w.heap.size)
    (h : ∀ g cap w', Lo w' n₀ (.slice (some ⟨g, 0, none⟩) (xs.length + m) cap) (xs ++ ys) → w.grownBy w' v.ownBlock → wpList Try.prog ops Q rest (a.put o.dst (.slice (some ⟨g, 0, none⟩) (xs.length + m) cap)) w') : wpList Try.prog ops Q (o :: rest) a w := by
  obtain ⟨g, cap, w', hr, h1, h2, _⟩ := run_own o.type n₀ v xs hx p ys m c hyl hyr hp hb hbase
  exact wpList_app hgd s x ho hs hy hr (h g cap w' h1 h2)
theorem step_own (hgd : o.guard = none) (s x : Operand) (ho : o.op = .call { callee := .builtin .append, args := #[s, x], argTypes := #[22, 22] })
    (n₀ : Nat) (v : Value) (xs : List Ent) (hs : a.eval s = v) (hx : Lo w n₀ v xs) (p : Addr) (ys : List Ent) (m c : Nat) (hy : a.eval x = .slice (some p) m c) (hyl : ys.length = m) (hyr : Row w p ys) (hp : 0 < m) (hb : xs.length + m ≤ 8796093022208) (hbase : n₀ ≤ w.heap.size)
    (h : ∀ g cap w', Lo w' n₀ (.slice (some ⟨g, 0, none⟩) (xs.length + m) cap) (xs ++ ys) → w.grownBy w' v.ownBlock → K (a.put o.dst (.slice (some ⟨g, 0, none⟩) (xs.length + m) cap)) w') : if Region.wanted o (yielded ops a.tmps) = true then Oper.wp Try.prog o a w K Q else E := by
  obtain ⟨g, cap, w', hr, h1, h2, _⟩ := run_own o.type n₀ v xs hx p ys m c hyl hyr hp hb hbase
  exact step_app hgd s x ho hs hy hr (h g cap w' h1 h2)
end
theorem Up.own {W w w' : World} {v : Value} {xs : List Ent} (h : Up W w) (hx : Lo w W.heap.size v xs) (hg : w.grownBy w' v.ownBlock) : Up W w' := h.grown hg (fun k e => (World.ownsRow.lt hx k e).1)

theorem Row.far {w : World} {p q : Addr} {xs : List Ent} (h : Row w p xs) (hq : p.block ≠ q.block) (u : Value) : Row (w.setCell q u) p xs :=
  ⟨by simpa [World.setCell] using h.1, fun j x hx => (World.cell?_setCell_other w q (p.add j) u (fun e => hq (by rw [e, block_of_add]))).trans (h.2 j x hx)⟩
theorem Sl.far {w : World} {v : Value} {xs : List Ent} {n₀ B i : Nat} (h : Sl w v xs) (hl : xs ≠ [] → Lo w n₀ v xs) (hB : B < n₀) (u : Value) : Sl (w.setCell ⟨B, i, none⟩ u) v xs ∧ (xs ≠ [] → Lo (w.setCell ⟨B, i, none⟩ u) n₀ v xs) := by
  by_cases hx : xs = []
  · subst hx
    obtain ⟨A, c, e, h1, h2, h3, -⟩ := h
    exact ⟨⟨A, c, e, h1, h2, h3, rfl, fun q => absurd q (by simp)⟩, fun q => absurd rfl q⟩
  · have hlo := hl hx
    have hne : v.ownBlock ≠ some B := fun e => by
      have := (World.ownsRow.lt hlo B e).1
      omega
    have h2 : Lo (w.setCell ⟨B, i, none⟩ u) n₀ v xs := by
      refine World.ownsRow.kept hlo (row := some B) ⟨rfl, rfl, rfl, by simp [World.setCell], fun k hk hne => Below.heap_setCell w ⟨B, i, none⟩ u k (fun e => hne (by rw [e]))⟩ (.inr hne)
    exact ⟨Sl.of_lo h2, fun _ => h2⟩
/-- A row comes. -/
def AnPost (xs : List Ent) (w : World) (e : Ending) (w' : World) : Prop := ∃ v, e = .returned v ∧ Sl w' v xs ∧ (xs ≠ [] → Lo w' w.heap.size v xs) ∧ Up w w'
theorem nil_is (w : World) : (binOp .eql 22 (.slice none 0 0) (.slice none 0 0)).run Try.prog w = .ok (.bool true) w := Lib.run_eql_slice_nil w _ _ none 0 0 0 0 Try.underlying22
theorem nil_no (p : Addr) (n c : Nat) (w : World) : (binOp .eql 22 (.slice (some p) n c) (.slice none 0 0)).run Try.prog w = .ok (.bool false) w := Lib.run_eql_slice_nil w _ _ (some p) n c 0 0 Try.underlying22
theorem clone_nil (A : Option Addr) (c : Nat) (hA : A = none → c = 0) (w : World) : Calls Try.prog 22 #[.slice A 0 c] w (AnPost [] w) := by
  cases A
  · obtain rfl := hA rfl
    have q := nil_is
    go_enter Try.func22, Try.ntmps22
    go_wp2
    go_ret
    exact ⟨_, rfl, Sl.nil _, fun q => absurd rfl q, Up.refl _⟩
  · rename_i p
    have q := nil_no p 0 c
    go_enter Try.func22, Try.ntmps22
    go_wp2_with (at_builtin; refine wpList_nothing rfl _ _ rfl _ _ _ rfl rfl ?_)
    go_ret
    exact ⟨_, rfl, Sl.of_lo (lo_empty (Blk.new w _ _) (Nat.le_refl _)), fun q => absurd rfl q, (Up.refl w).alloc _⟩
theorem clone_cons (p : Addr) (n c : Nat) (xs : List Ent) (w : World) (hr : Row w p xs) (hl : xs.length = n) (hp : 0 < n) (hb : n ≤ 8796093022208) : Calls Try.prog 22 #[.slice (some p) n c] w (AnPost xs w) := by
  have U1 := (Up.refl w).alloc (.cells #[] 25)
  have q := nil_no p n c
  go_enter Try.func22, Try.ntmps22
  go_wp2_with (at_builtin; refine wpList_more rfl _ _ rfl _ [] 0 rfl ⟨rfl, fun q => absurd q (by simp)⟩ p xs n c rfl hl (hr.up U1) hp (by omega) ?_; intro v' w' hown hup)
  go_ret
  exact ⟨_, rfl, Sl.of_lo hown, fun _ => hown.le (by simp), U1.trans hup⟩
theorem clone_any (v : Value) (xs : List Ent) (w : World) (hx : Sl w v xs) (hb : xs.length ≤ 8796093022208) : Calls Try.prog 22 #[v] w (AnPost xs w) := by
  obtain ⟨A, c, rfl, -, -, h3, hr⟩ := hx
  by_cases h : xs = []
  · subst h
    exact clone_nil A c h3 w
  · have hp : 0 < xs.length := List.length_pos_iff.2 h
    obtain ⟨p, rfl, hw⟩ := hr.2 hp
    exact clone_cons p _ c xs w hw rfl hp hb
end Go.Proofs.Ytgofejhjnbnecaa
