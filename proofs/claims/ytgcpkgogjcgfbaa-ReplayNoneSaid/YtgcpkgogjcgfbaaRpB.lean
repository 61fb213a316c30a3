/- Entries, logs and rows of logs; replay.done, All, anew, Logs: contracts. -/
import Derived.Test.YtgcpkgogjcgfbaaOb12
import Derived.ScopeJumps
import Derived.Laws.CopyOwn
import Derived.Laws.OwnMore
import Derived.Laws.EntriesVeiled
import Derived.Deep.AppendLies
import Derived.Deep.RegionLaw
import Derived.Deep.RegionHeld3
import Derived.Deep.QuietTactic
import Derived.Deep.Slices
import Derived.BigQuiet
import Derived.OwnWalkIn
import Derived.LoopN
import Derived.LoopNIn
import Derived.LoopIn
import Derived.Maps.AppendAt
import Derived.Carry
import Derived.WideKeyArgs
import Derived.ChangeArms
import Derived.Lib.SmallJoins
import Derived.ArgAppend
import Derived.Lib.SliceRun
import Derived.Laws.StructEq
import Derived.Laws.Rows
import Derived.Deep.OwnRows
import Derived.Shelf.Abstract
import Derived.Maps.OwnIn
import Derived.Maps.OwnSet
import Derived.Maps.Own
import Derived.Maps.Views
import Derived.TacticsInMore
import Derived.Deep.Matrix
import Derived.SizedLaws
import Derived.Test.YtgcpkgogjcgfbaaRpA
import Derived.Deep.RegionWith
namespace Go.Proofs.Ytgcpkgogjcgfbaa.E
open Go.Joins Go.ChangeShapes Go.WideShapes Go.ChangeAt Go.RowKit Go.Deep Go.Shelf Go.Maps
set_option linter.unusedVariables false
set_option linter.unusedSimpArgs false

theorem _root_.Go.Proofs.Ytgcpkgogjcgfbaa.Up.gb {a b : World} (h : Up a b) : a.grownBy b none := ⟨h.os, h.tape, h.output, h.size, fun i hi _ => h.block i hi⟩
theorem _root_.Go.Proofs.Ytgcpkgogjcgfbaa.Up.bel {a b : World} {n : Nat} (h : Up a b) (hn : n ≤ a.heap.size) : Below n a b := Below.mono h hn
theorem own_row_ne {w : World} {base : Nat} {e t : TypeId} {size n g : Nat} {v : Value} {xs : List Value} {cs : Array Value} (h : w.ownsRow base e size v n xs) (hg : Blk w g t cs) (hne : e ≠ t) : some g ≠ v.ownBlock := by
  rcases h.2 with ⟨rfl, _⟩ | ⟨g', cap, cur, rfl, _, hh, _⟩
  · simp [Value.ownBlock]
  · intro he
    have : g = g' := by simpa [Value.ownBlock] using he
    subst this
    unfold Blk at hg
    rw [hg] at hh
    injection hh with hh
    injection hh with _ ht
    exact hne ht.symm
theorem _root_.Go.Proofs.Ytgcpkgogjcgfbaa.Blk.ne_type {W : World} {g g' : Nat} {t t' : TypeId} {cs cs' : Array Value} (h : Blk W g t cs) (h' : Blk W g' t' cs') (ht : t ≠ t') : g ≠ g' := fun e => by
  subst e
  unfold Blk at h h'
  rw [h] at h'
  injection h' with h'
  injection h' with _ h'
  exact ht h'

/-- An entry: an object's address, a field's number. -/
abbrev Ent := Int × Int
def evs : List Ent → List Value
  | [] => []
  | x :: r => .int .u64 x.1 :: .int .i64 x.2 :: evs r
theorem evs_len : ∀ xs : List Ent, (evs xs).length = xs.length * 2
  | [] => rfl
  | x :: r => by simp only [evs, List.length_cons, evs_len r]; omega
theorem evs_one : ∀ xs : List Ent, ∀ v ∈ evs xs, v.oneCell' = true
  | [], v, h => by cases h
  | x :: r, v, h => by
    simp only [evs, List.mem_cons] at h
    rcases h with rfl | rfl | h
    · rfl
    · rfl
    · exact evs_one r v h
theorem evs_app : ∀ xs ys : List Ent, evs (xs ++ ys) = evs xs ++ evs ys
  | [], ys => rfl
  | x :: r, ys => by simp [evs, evs_app r ys]
theorem evs_at : ∀ (xs : List Ent) (j : Nat) (x : Ent), xs[j]? = some x → (evs xs)[j * 2]? = some (.int .u64 x.1) ∧ (evs xs)[j * 2 + 1]? = some (.int .i64 x.2)
  | [], j, x, h => by simp at h
  | y :: r, 0, x, h => by simp at h; subst h; simp [evs]
  | y :: r, j + 1, x, h => by
    have := evs_at r j x (by simpa using h)
    rw [show (j + 1) * 2 = j * 2 + 1 + 1 from by omega]
    simpa [evs] using this
/-- The next cell's address, as the walk spells it. -/
abbrev nxt (q : Addr) : Addr := ⟨q.block, q.off + 1, none⟩
theorem nxt_add (p : Addr) (j : Nat) : nxt (p.add j) = p.add (j + 1) := by
  rw [← add_add]
  rfl
/-- A row of entries lies at an address. -/
def Row (w : World) (p : Addr) (xs : List Ent) : Prop := p.block < w.heap.size ∧ ∀ j v, (evs xs)[j]? = some v → w.cell? (p.add j) = some v
theorem Row.up {w w' : World} {p : Addr} {xs : List Ent} (h : Row w p xs) (k : Up w w') : Row w' p xs :=
  ⟨Nat.lt_of_lt_of_le h.1 k.size, fun j x hx => (Below.cell k (by rw [block_of_add]; exact h.1)).trans (h.2 j x hx)⟩
theorem Row.at_ {w : World} {p : Addr} {xs : List Ent} (h : Row w p xs) (j : Nat) (hj : j < xs.length) : w.cell? (p.add (j * 2)) = some (.int .u64 (xs.getD j (0, 0)).1) ∧ w.cell? (nxt (p.add (j * 2))) = some (.int .i64 (xs.getD j (0, 0)).2) := by
  have e := evs_at xs j xs[j] (List.getElem?_eq_getElem hj)
  simp only [List.getD, List.getElem?_eq_getElem hj, Option.getD_some]
  exact ⟨h.2 _ _ e.1, by rw [nxt_add]; exact h.2 _ _ e.2⟩
theorem Row.src {w : World} {p : Addr} {xs : List Ent} (h : Row w p xs) : ∀ j v, (evs xs)[j]? = some v → w.cell? (p.add j) = some v := h.2
theorem row_of_blk {w : World} {g : Nat} {t : TypeId} {xs : List Ent} (h : Blk w g t (evs xs).toArray) : Row w ⟨g, 0, none⟩ xs :=
  ⟨h.lt, fun j v hv => by rw [add_zero', h.cell j]; simpa using hv⟩
/-- A slice reads as a list of entries, nil let in. -/
def Rd (w : World) (A : Option Addr) (n : Nat) (xs : List Ent) : Prop := xs.length = n ∧ (0 < n → ∃ p, A = some p ∧ Row w p xs)
theorem Rd.up {w w' : World} {A : Option Addr} {n : Nat} {xs : List Ent} (h : Rd w A n xs) (k : Up w w') : Rd w' A n xs :=
  ⟨h.1, fun hn => by obtain ⟨p, e, hr⟩ := h.2 hn; exact ⟨p, e, hr.up k⟩⟩
theorem Rd.of_row {w : World} {p : Addr} {xs : List Ent} {n : Nat} (h : Row w p xs) (hn : xs.length = n) : Rd w (some p) n xs := ⟨hn, fun _ => ⟨p, rfl, h⟩⟩
theorem Rd.at_ {w : World} {A : Option Addr} {n x : Nat} {xs : List Ent} (h : Rd w A n xs) (hx : x < n) : ∃ p, A = some p ∧ w.cell? (p.add (x * 2)) = some (.int .u64 (xs.getD x (0, 0)).1) ∧ w.cell? (nxt (p.add (x * 2))) = some (.int .i64 (xs.getD x (0, 0)).2) := by
  obtain ⟨p, e, hr⟩ := h.2 (by omega)
  exact ⟨p, e, hr.at_ x (by rw [h.1]; exact hx)⟩
theorem take_more {α : Type} {xs ys : List α} {x : Nat} (d : α) (h : xs.take x = ys.take x) (h1 : x < xs.length) (h2 : x < ys.length) (e : xs.getD x d = ys.getD x d) : xs.take (x + 1) = ys.take (x + 1) := by
  rw [List.take_succ_eq_append_getElem h1, List.take_succ_eq_append_getElem h2, h]
  simp [List.getD, List.getElem?_eq_getElem h1, List.getElem?_eq_getElem h2] at e
  rw [e]
theorem ne_of_get {α : Type} {xs ys : List α} {x : Nat} (d : α) (e : xs.getD x d ≠ ys.getD x d) : xs ≠ ys := fun h => e (by rw [h])
/-! ### Rows of the call's own, slices of entries -/
theorem info_ent : (Try.prog.info? 46).map (fun i => (i.zero, i.size, i.bytes)) = some (some (.agg #[.int .u64 0, .int .i64 0]), 2, 16) := by kernel_rfl
/-- A row of the call's own. -/
def Lo (w : World) (n₀ : Nat) (v : Value) (xs : List Ent) : Prop := w.ownsRow n₀ 46 2 v xs.length (evs xs)
theorem Lo.sl {w : World} {n₀ : Nat} {v : Value} {xs : List Ent} (h : Lo w n₀ v xs) : ∃ A cap, v = .slice A xs.length cap ∧ xs.length ≤ cap ∧ cap ≤ maxLen ∧ Rd w A xs.length xs := by
  obtain ⟨hl, hc⟩ := h
  rcases hc with ⟨rfl, h0⟩ | ⟨g, cap, cur, rfl, hb, hg, h1, h2, h3, h4⟩
  · obtain rfl : xs = [] := List.eq_nil_of_length_eq_zero h0
    exact ⟨none, 0, rfl, Nat.le_refl _, Nat.zero_le _, rfl, fun q => absurd q (by simp)⟩
  · refine ⟨_, _, rfl, h1, h2, rfl, fun q => ⟨_, rfl, (Array.getElem?_eq_some_iff.1 hg).1, fun j v hj => ?_⟩⟩
    rw [add_zero', cell_of_row w g j cur _ (0, 0) hg]
    have hlt : j < (evs xs).length := by
      rcases Nat.lt_or_ge j (evs xs).length with q | q
      · exact q
      · rw [List.getElem?_eq_none q] at hj; cases hj
    rw [evs_len] at hlt
    rw [← h4, List.getElem?_take, if_pos (by omega)] at hj
    simpa using hj
theorem Lo.nil (w : World) (n₀ : Nat) : Lo w n₀ (.slice none 0 0) [] := World.ownsRow_nil _ _ _ _
theorem Lo.up {w w' : World} {n₀ : Nat} {v : Value} {xs : List Ent} (h : Lo w n₀ v xs) (k : Up w w') : Lo w' n₀ v xs :=
  World.ownsRow.kept h k.gb (by
    cases e : v.ownBlock with
    | none => exact .inl rfl
    | some g => exact .inr (by simp))
theorem Lo.le {w : World} {n₀ n₁ : Nat} {v : Value} {xs : List Ent} (h : Lo w n₀ v xs) (k : n₁ ≤ n₀) : Lo w n₁ v xs :=
  ⟨h.1, h.2.imp id fun ⟨g, cap, cur, h1, h2, r⟩ => ⟨g, cap, cur, h1, Nat.le_trans k h2, r⟩⟩
theorem lo_empty {V : World} {g n₀ : Nat} (h : Blk V g 46 #[]) (hb : n₀ ≤ g) : Lo V n₀ (.slice (some ⟨g, 0, none⟩) 0 0) [] := ⟨rfl, .inr ⟨g, 0, #[], rfl, hb, h, Nat.le_refl _, Nat.zero_le _, rfl, rfl⟩⟩
/-- A slice of entries. -/
def Sl (w : World) (v : Value) (xs : List Ent) : Prop := ∃ A c, v = .slice A xs.length c ∧ xs.length ≤ c ∧ c ≤ maxLen ∧ (A = none → c = 0) ∧ Rd w A xs.length xs
theorem Sl.up {w w' : World} {v : Value} {xs : List Ent} (h : Sl w v xs) (k : Up w w') : Sl w' v xs := by
  obtain ⟨A, c, e, h1, h2, h3, h4⟩ := h
  exact ⟨A, c, e, h1, h2, h3, h4.up k⟩
theorem Sl.of_lo {w : World} {n₀ : Nat} {v : Value} {xs : List Ent} (h : Lo w n₀ v xs) : Sl w v xs := by
  obtain ⟨A, c, e, h1, h2, h3⟩ := h.sl
  refine ⟨A, c, e, h1, h2, fun q => ?_, h3⟩
  subst q
  obtain ⟨-, hc⟩ := h
  rcases hc with ⟨rfl, h0⟩ | ⟨g, cap, cur, rfl, _⟩
  · rw [h0] at e; cases e; rfl
  · cases e
theorem Sl.nil (w : World) : Sl w (.slice none 0 0) [] := ⟨none, 0, rfl, Nat.le_refl _, Nat.zero_le _, fun _ => rfl, rfl, fun q => absurd q (by simp)⟩
theorem Sl.rd {w : World} {A : Option Addr} {n c : Nat} {xs : List Ent} (h : Sl w (.slice A n c) xs) : Rd w A n xs := by
  obtain ⟨A', c', e, _, _, _, h4⟩ := h
  cases e
  exact h4
theorem Sl.len {w : World} {A : Option Addr} {n c : Nat} {xs : List Ent} (h : Sl w (.slice A n c) xs) : xs.length = n := h.rd.1
theorem Sl.max {w : World} {v : Value} {xs : List Ent} (h : Sl w v xs) : xs.length ≤ maxLen := by
  obtain ⟨A, c, e, h1, h2, _⟩ := h
  omega
theorem Sl.slice {w : World} {v : Value} {xs : List Ent} (h : Sl w v xs) : ∃ A n c, v = .slice A n c := by
  obtain ⟨A, c, e, _⟩ := h
  exact ⟨_, _, _, e⟩

theorem info3 : ∃ i0, Try.prog.info? 46 = some i0 ∧ i0.zero = some (.agg #[.int .u64 0, .int .i64 0]) ∧ i0.size = 2 ∧ i0.bytes = 16 := info_parts info_ent
/-- An append of nothing onto nothing. -/
theorem run_nothing (A B : Option Addr) (c : Nat) (ty : TypeId) (w : World) : (Builtin.append_ #[32, 32] ty #[.slice A 0 0, .slice B 0 c]).run Try.prog w = .ok (.slice A 0 0) w := by
  obtain ⟨i0, hi, hz0, hz1, hz2⟩ := info3
  cases A <;> cases B <;> simp [Builtin.append_, run_underlying Try.underlying32, sizeOf, typeInfo, hi, Builtin.lenOf, Builtin.firstCells, loadCells, loadCellsFrom, storeCells]
/-- A row of as many entries as it is cut to takes more: it moves to a new block. -/
theorem run_more {w : World} (ty : TypeId) (A : Option Addr) (xs : List Ent) (n : Nat) (hx : Rd w A n xs) (p : Addr) (ys : List Ent) (m c : Nat) (hyl : ys.length = m) (hyr : Row w p ys) (hp : 0 < m) (hb : n + m ≤ 8796093022208) :
    ∃ v' w', (Builtin.append_ #[32, 32] ty #[.slice A n n, .slice (some p) m c]).run Try.prog w = .ok v' w' ∧ Lo w' w.heap.size v' (xs ++ ys) ∧ Up w w' := by
  subst hyl
  have hxl := hx.1
  subst hxl
  obtain ⟨i0, hi, hz0, hz1, hz2⟩ := info3
  have fin : ∀ v' w', w'.ownsRow w.heap.size 46 2 v' (xs.length + ys.length) (evs xs ++ evs ys) → w.grownBy w' none → Lo w' w.heap.size v' (xs ++ ys) ∧ Up w w' := fun v' w' h1 h2 => by
    refine ⟨?_, Up.grown (Up.refl w) h2 (fun k e => by cases e)⟩
    unfold Lo
    rw [List.length_append, evs_app]
    exact h1
  cases A with
  | none =>
    have h0 : xs.length = 0 := by
      rcases Nat.eq_zero_or_pos xs.length with q | q
      · exact q
      · obtain ⟨p', e2, _⟩ := hx.2 q
        cases e2
    obtain rfl := List.eq_nil_of_length_eq_zero h0
    obtain ⟨v', w', hrun, r1, r2, _⟩ := run_append_own (P := Try.prog) w w.heap.size 32 ty 46 i0 _ 2 16 Try.underlying32 hi hz0 hz1 hz2 rfl (by decide) (.slice none 0 0) 0 [] (World.ownsRow_nil w _ _ 2) p ys.length c (evs ys) (evs_len ys) hyr.2 (evs_one ys) (by unfold maxLen; omega) (by omega) (Nat.le_refl _)
    exact ⟨v', w', hrun, fin v' w' r1 (by simpa [Value.ownBlock] using r2)⟩
  | some a =>
    have hl : ∀ j u, (evs xs)[j]? = some u → w.cell? (a.add j) = some u := fun j u hj => by
      have hl : 0 < xs.length := by
        rcases Nat.eq_zero_or_pos xs.length with q | q
        · rw [List.eq_nil_of_length_eq_zero q] at hj
          cases hj
        · exact q
      obtain ⟨p', e2, hr⟩ := hx.2 hl
      cases e2
      exact hr.2 j u hj
    obtain ⟨v', w', hrun, r1, r2⟩ := run_append_arg_grows (P := Try.prog) w 32 ty 46 i0 _ 2 16 Try.underlying32 hi hz0 hz1 hz2 rfl (by decide) a xs.length xs.length (evs xs) (evs_len xs) hl p ys.length c (evs ys) (evs_len ys) hyr.2 (by omega) (by unfold maxLen; omega) (by omega)
    exact ⟨v', w', hrun, fin v' w' r1 r2⟩
/-- A row of the call's own takes more. -/
theorem run_own {w : World} (ty : TypeId) (n₀ : Nat) (v : Value) (xs : List Ent) (hx : Lo w n₀ v xs) (p : Addr) (ys : List Ent) (m c : Nat) (hyl : ys.length = m) (hyr : Row w p ys) (hp : 0 < m) (hb : xs.length + m ≤ 8796093022208) (hbase : n₀ ≤ w.heap.size) :
    ∃ g cap w', (Builtin.append_ #[32, 32] ty #[v, .slice (some p) m c]).run Try.prog w = .ok (.slice (some ⟨g, 0, none⟩) (xs.length + m) cap) w' ∧ Lo w' n₀ (.slice (some ⟨g, 0, none⟩) (xs.length + m) cap) (xs ++ ys) ∧ w.grownBy w' v.ownBlock ∧ (v.ownBlock = some g ∨ g = w.heap.size) := by
  subst hyl
  obtain ⟨i0, hi, hz0, hz1, hz2⟩ := info3
  obtain ⟨g, cap, w', hr, h2, h3, h4, h5⟩ := run_append_lies (P := Try.prog) w 32 ty n₀ 46 i0 _ 2 16 Try.underlying32 hi hz0 hz1 hz2 rfl (by decide) v xs.length (evs xs) hx p ys.length c (evs ys) (evs_len ys) hyr.2 (evs_one ys) hp (by unfold maxLen; omega) (by omega) hbase w.heap.size rfl
  refine ⟨g, cap, w', hr, ?_, h3, h4⟩
  unfold Lo
  rw [List.length_append, evs_app]
  exact h2
section
variable {w : World} {ops : Array Oper} {rest : List Oper} {o : Oper} {a : Act} {K : Act → World → Prop} {Q : Exit → Act → World → Prop} {E : Prop}
theorem wp_app {x y v : Value} {w' : World} (s t : Operand) (ho : o.op = .call { callee := .builtin .append, args := #[s, t], argTypes := #[32, 32] }) (hs : a.eval s = x) (ht : a.eval t = y)
    (hr : (Builtin.append_ #[32, 32] o.type #[x, y]).run Try.prog w = .ok v w') (h : K (a.put o.dst v) w') : Oper.wp Try.prog o a w K Q := by
  unfold Oper.wp execOp
  simp only [ho, resolve, invoke, builtin, Sem.run_bind, Sem.run_pure, Result.andThen_ok, List.map_toArray, List.map_cons, List.map_nil, hs, ht, hr]
  exact h
theorem wpList_app (hgd : o.guard = none) {x y v : Value} {w' : World} (s t : Operand) (ho : o.op = .call { callee := .builtin .append, args := #[s, t], argTypes := #[32, 32] }) (hs : a.eval s = x) (ht : a.eval t = y)
    (hr : (Builtin.append_ #[32, 32] o.type #[x, y]).run Try.prog w = .ok v w') (h : wpList Try.prog ops Q rest (a.put o.dst v) w') : wpList Try.prog ops Q (o :: rest) a w :=
  wpList_plain hgd fun K hK => wp_app s t ho hs ht hr (hK _ _ h)
theorem step_app (hgd : o.guard = none) {x y v : Value} {w' : World} (s t : Operand) (ho : o.op = .call { callee := .builtin .append, args := #[s, t], argTypes := #[32, 32] }) (hs : a.eval s = x) (ht : a.eval t = y)
    (hr : (Builtin.append_ #[32, 32] o.type #[x, y]).run Try.prog w = .ok v w') (h : K (a.put o.dst v) w') : if Region.wanted o (yielded ops a.tmps) = true then Oper.wp Try.prog o a w K Q else E := by
  have hw : Region.wanted o (yielded ops a.tmps) = true := by simp [Region.wanted, hgd]
  rw [if_pos hw]
  exact wp_app s t ho hs ht hr h
theorem wpList_nothing (hgd : o.guard = none) (s x : Operand) (ho : o.op = .call { callee := .builtin .append, args := #[s, x], argTypes := #[32, 32] })
    (A B : Option Addr) (c : Nat) (hs : a.eval s = .slice A 0 0) (hx : a.eval x = .slice B 0 c) (h : wpList Try.prog ops Q rest (a.put o.dst (.slice A 0 0)) w) : wpList Try.prog ops Q (o :: rest) a w :=
  wpList_app hgd s x ho hs hx (run_nothing A B c _ w) h
theorem step_nothing (hgd : o.guard = none) (s x : Operand) (ho : o.op = .call { callee := .builtin .append, args := #[s, x], argTypes := #[32, 32] })
    (A B : Option Addr) (c : Nat) (hs : a.eval s = .slice A 0 0) (hx : a.eval x = .slice B 0 c) (h : K (a.put o.dst (.slice A 0 0)) w) : if Region.wanted o (yielded ops a.tmps) = true then Oper.wp Try.prog o a w K Q else E :=
  step_app hgd s x ho hs hx (run_nothing A B c _ w) h
theorem wpList_more (hgd : o.guard = none) (s x : Operand) (ho : o.op = .call { callee := .builtin .append, args := #[s, x], argTypes := #[32, 32] })
    (A : Option Addr) (xs : List Ent) (n : Nat) (hs : a.eval s = .slice A n n) (hx : Rd w A n xs) (p : Addr) (ys : List Ent) (m c : Nat) (hy : a.eval x = .slice (some p) m c) (hyl : ys.length = m) (hyr : Row w p ys) (hp : 0 < m) (hb : n + m ≤ 8796093022208)
    (h : ∀ v' w', Lo w' w.heap.size v' (xs ++ ys) → Up w w' → wpList Try.prog ops Q rest (a.put o.dst v') w') : wpList Try.prog ops Q (o :: rest) a w := by
  obtain ⟨v', w', hr, h1, h2⟩ := run_more o.type A xs n hx p ys m c hyl hyr hp hb
  exact wpList_app hgd s x ho hs hy hr (h v' w' h1 h2)
theorem step_more (hgd : o.guard = none) (s x : Operand) (ho : o.op = .call { callee := .builtin .append, args := #[s, x], argTypes := #[32, 32] })
    (A : Option Addr) (xs : List Ent) (n : Nat) (hs : a.eval s = .slice A n n) (hx : Rd w A n xs) (p : Addr) (ys : List Ent) (m c : Nat) (hy : a.eval x = .slice (some p) m c) (hyl : ys.length = m) (hyr : Row w p ys) (hp : 0 < m) (hb : n + m ≤ 8796093022208)
    (h : ∀ v' w', Lo w' w.heap.size v' (xs ++ ys) → Up w w' → K (a.put o.dst v') w') : if Region.wanted o (yielded ops a.tmps) = true then Oper.wp Try.prog o a w K Q else E := by
  obtain ⟨v', w', hr, h1, h2⟩ := run_more o.type A xs n hx p ys m c hyl hyr hp hb
  exact step_app hgd s x ho hs hy hr (h v' w' h1 h2)
theorem wpList_own (hgd : o.guard = none) (s x : Operand) (ho : o.op = .call { callee := .builtin .append, args := #[s, x], argTypes := #[32, 32] })
    (n₀ : Nat) (v : Value) (xs : List Ent) (hs : a.eval s = v) (hx : Lo w n₀ v xs) (p : Addr) (ys : List Ent) (m c : Nat) (hy : a.eval x = .slice (some p) m c) (hyl : ys.length = m) (hyr : Row w p ys) (hp : 0 < m) (hb : xs.length + m ≤ 8796093022208) (hbase : n₀ ≤ w.heap.size)
    (h : ∀ g cap w', Lo w' n₀ (.slice (some ⟨g, 0, none⟩) (xs.length + m) cap) (xs ++ ys) → w.grownBy w' v.ownBlock → wpList Try.prog ops Q rest (a.put o.dst (.slice (some ⟨g, 0, none⟩) (xs.length + m) cap)) w') : wpList Try.prog ops Q (o :: rest) a w := by
  obtain ⟨g, cap, w', hr, h1, h2, _⟩ := run_own o.type n₀ v xs hx p ys m c hyl hyr hp hb hbase
  exact wpList_app hgd s x ho hs hy hr (h g cap w' h1 h2)
theorem step_own (hgd : o.guard = none) (s x : Operand) (ho : o.op = .call { callee := .builtin .append, args := #[s, x], argTypes := #[32, 32] })
    (n₀ : Nat) (v : Value) (xs : List Ent) (hs : a.eval s = v) (hx : Lo w n₀ v xs) (p : Addr) (ys : List Ent) (m c : Nat) (hy : a.eval x = .slice (some p) m c) (hyl : ys.length = m) (hyr : Row w p ys) (hp : 0 < m) (hb : xs.length + m ≤ 8796093022208) (hbase : n₀ ≤ w.heap.size)
    (h : ∀ g cap w', Lo w' n₀ (.slice (some ⟨g, 0, none⟩) (xs.length + m) cap) (xs ++ ys) → w.grownBy w' v.ownBlock → K (a.put o.dst (.slice (some ⟨g, 0, none⟩) (xs.length + m) cap)) w') : if Region.wanted o (yielded ops a.tmps) = true then Oper.wp Try.prog o a w K Q else E := by
  obtain ⟨g, cap, w', hr, h1, h2, _⟩ := run_own o.type n₀ v xs hx p ys m c hyl hyr hp hb hbase
  exact step_app hgd s x ho hs hy hr (h g cap w' h1 h2)
end
theorem _root_.Go.Proofs.Ytgcpkgogjcgfbaa.Up.own {W w w' : World} {v : Value} {xs : List Ent} (h : Up W w) (hx : Lo w W.heap.size v xs) (hg : w.grownBy w' v.ownBlock) : Up W w' := h.grown hg (fun k e => (World.ownsRow.lt hx k e).1)

theorem Row.far {w : World} {p q : Addr} {xs : List Ent} (h : Row w p xs) (hq : p.block ≠ q.block) (u : Value) : Row (w.setCell q u) p xs :=
  ⟨by simpa [World.setCell] using h.1, fun j x hx => (World.cell?_setCell_other w q (p.add j) u (fun e => hq (by rw [e, block_of_add]))).trans (h.2 j x hx)⟩
theorem Sl.far {w : World} {v : Value} {xs : List Ent} {n₀ B i : Nat} (h : Sl w v xs) (hl : xs ≠ [] → Lo w n₀ v xs) (hB : B < n₀) (u : Value) : Sl (w.setCell ⟨B, i, none⟩ u) v xs ∧ (xs ≠ [] → Lo (w.setCell ⟨B, i, none⟩ u) n₀ v xs) := by
  by_cases hx : xs = []
  · subst hx
    obtain ⟨A, c, e, h1, h2, h3, -⟩ := h
    exact ⟨⟨A, c, e, h1, h2, h3, rfl, fun q => absurd q (by simp)⟩, fun q => absurd rfl q⟩
  · have hlo := hl hx
    have hne : v.ownBlock ≠ some B := fun e => by
      have := (World.ownsRow.lt hlo B e).1
      omega
    have h2 : Lo (w.setCell ⟨B, i, none⟩ u) n₀ v xs := by
      refine World.ownsRow.kept hlo (row := some B) ⟨rfl, rfl, rfl, by simp [World.setCell], fun k hk hne => Below.heap_setCell w ⟨B, i, none⟩ u k (fun e => hne (by rw [e]))⟩ (.inr hne)
    exact ⟨Sl.of_lo h2, fun _ => h2⟩
/-- A row comes. -/
def AnPost (xs : List Ent) (w : World) (e : Ending) (w' : World) : Prop := ∃ v, e = .returned v ∧ Sl w' v xs ∧ (xs ≠ [] → Lo w' w.heap.size v xs) ∧ Up w w'
theorem nil_is (w : World) : (binOp .eql 32 (.slice none 0 0) (.slice none 0 0)).run Try.prog w = .ok (.bool true) w := Lib.run_eql_slice_nil w _ _ none 0 0 0 0 Try.underlying32
theorem nil_no (p : Addr) (n c : Nat) (w : World) : (binOp .eql 32 (.slice (some p) n c) (.slice none 0 0)).run Try.prog w = .ok (.bool false) w := Lib.run_eql_slice_nil w _ _ (some p) n c 0 0 Try.underlying32
theorem clone_nil (A : Option Addr) (c : Nat) (hA : A = none → c = 0) (w : World) : Calls Try.prog 48 #[.slice A 0 c] w (AnPost [] w) := by
  cases A
  · obtain rfl := hA rfl
    have q := nil_is
    go_enter Try.func48, Try.ntmps48
    go_wp2
    go_ret
    exact ⟨_, rfl, Sl.nil _, fun q => absurd rfl q, Up.refl _⟩
  · rename_i p
    have q := nil_no p 0 c
    go_enter Try.func48, Try.ntmps48
    go_wp2_with (at_builtin; refine wpList_nothing rfl _ _ rfl _ _ _ rfl rfl ?_)
    go_ret
    exact ⟨_, rfl, Sl.of_lo (lo_empty (Blk.new w _ _) (Nat.le_refl _)), fun q => absurd rfl q, (Up.refl w).alloc _⟩
theorem clone_cons (p : Addr) (n c : Nat) (xs : List Ent) (w : World) (hr : Row w p xs) (hl : xs.length = n) (hp : 0 < n) (hb : n ≤ 8796093022208) : Calls Try.prog 48 #[.slice (some p) n c] w (AnPost xs w) := by
  have U1 := (Up.refl w).alloc (.cells #[] 46)
  have q := nil_no p n c
  go_enter Try.func48, Try.ntmps48
  go_wp2_with (at_builtin; refine wpList_more rfl _ _ rfl _ [] 0 rfl ⟨rfl, fun q => absurd q (by simp)⟩ p xs n c rfl hl (hr.up U1) hp (by omega) ?_; intro v' w' hown hup)
  go_ret
  exact ⟨_, rfl, Sl.of_lo hown, fun _ => hown.le (by simp), U1.trans hup⟩
theorem clone_any (v : Value) (xs : List Ent) (w : World) (hx : Sl w v xs) (hb : xs.length ≤ 8796093022208) : Calls Try.prog 48 #[v] w (AnPost xs w) := by
  obtain ⟨A, c, rfl, -, -, h3, hr⟩ := hx
  by_cases h : xs = []
  · subst h
    exact clone_nil A c h3 w
  · have hp : 0 < xs.length := List.length_pos_iff.2 h
    obtain ⟨p, rfl, hw⟩ := hr.2 hp
    exact clone_cons p _ c xs w hw rfl hp hb

end Go.Proofs.Ytgcpkgogjcgfbaa.E
namespace Go.Proofs.Ytgcpkgogjcgfbaa.E
open Go.Joins Go.ChangeShapes Go.WideShapes Go.ChangeAt Go.RowKit Go.Deep Go.Shelf Go.Maps
set_option linter.unusedVariables false
set_option linter.unusedSimpArgs false

abbrev ev (x : Ent) : Value := .agg #[.int .u64 x.1, .int .i64 x.2]
theorem _root_.Go.Proofs.Ytgcpkgogjcgfbaa.Up.set2 {a b : World} (h : Up a b) {g : Nat} (hg : a.heap.size ≤ g) (u0 u1 : Value) : Up a ((b.setCell ⟨g, 0, none⟩ u0).setCell ⟨g, 1, none⟩ u1) := (h.setCell hg u0).setCell hg u1
theorem _root_.Go.Proofs.Ytgcpkgogjcgfbaa.Blk.set2 {w : World} {g : Nat} {t : TypeId} {x0 x1 : Value} (h : Blk w g t #[x0, x1]) (u0 u1 : Value) : Blk ((w.setCell ⟨g, 0, none⟩ u0).setCell ⟨g, 1, none⟩ u1) g t #[u0, u1] := by
  have := (h.set_ 0 u0).set_ 1 u1
  simpa using this
/-- The end of a call that answers an entry in a block of its own, and two values. -/
theorem ret_ent {fn : Func} {p u v : Tmp} (h : fn.results = #[.cell p 46, .tmp u, .tmp v]) (tmps : Array Value) (w : World) (g : Nat) (x y : Int) (a b : Value)
    (hp : tmps.getD p undef = .pointer (some ⟨g, 0, none⟩)) (hg : Blk w g 46 #[.int .u64 x, .int .i64 y]) (ha : tmps.getD u undef = a) (hb : tmps.getD v undef = b) :
    (results fn tmps).run Try.prog w = .ok (.tuple #[ev (x, y), a, b]) w := by
  have hp' : tmps[p]?.getD undef = .pointer (some ⟨g, 0, none⟩) := by simpa using hp
  have ha' : tmps[u]?.getD undef = a := by simpa using ha
  have hb' : tmps[v]?.getD undef = b := by simpa using hb
  simp [results, h, hp', ha', hb', asAddr, run_loadVar_row w g 46 46 _ _ _ hg Try.underlying46 rfl (by kernel_rfl)]
/-- 'l[1:]' of some. -/
def tlA (p : Addr) (c : Nat) : Addr := if c = 1 then p else p.add 2
theorem run_tl (p : Addr) (n c : Nat) (hn : 0 < n) (hc : n ≤ c) (w : World) :
    (Instr.sliceAt 32 (.slice (some p) n c) (some (.int .i64 1)) none none).run Try.prog w = .ok (.slice (some (tlA p c)) (n - 1) (c - 1)) w ∧ (Instr.slice 32 (.slice (some p) n c) (some (.int .i64 1)) none none).run Try.prog w = .ok (.slice (some (tlA p c)) (n - 1) (c - 1)) w := by
  obtain ⟨i0, hi0, hz0, hz1, hz2⟩ := info3
  have hel : Try.prog.elem 32 = 46 := by kernel_rfl
  have hu : Try.prog.underlying 32 = some (.slice (Try.prog.elem 32)) := by rw [hel]; exact Try.underlying32
  rw [run_sliceAt_slice (h := hu), and_self, run_slice_l (ht := hu) (h0 := by omega) (h1 := by omega), hel]
  unfold tlA
  by_cases h : c = 1 <;> simp [sizeOf, typeInfo, hi0, hz1, sliced, h]
theorem tl_sl {w : World} {p : Addr} {n c : Nat} {xs : List Ent} (hr : Row w p xs) (hl : xs.length = n) (hn : 0 < n) (hc : n ≤ c) (hm : c ≤ maxLen) : Sl w (.slice (some (tlA p c)) (n - 1) (c - 1)) xs.tail := by
  have hl2 : xs.tail.length = n - 1 := by simp [hl]
  refine ⟨some (tlA p c), c - 1, by rw [hl2], by omega, by omega, fun q => (by cases q), rfl, fun hp => ⟨_, rfl, ?_⟩⟩
  have hc1 : ¬ c = 1 := by omega
  rw [show tlA p c = p.add 2 from if_neg hc1]
  refine ⟨by rw [block_of_add]; exact hr.1, fun j v hv => ?_⟩
  rw [add_add, Nat.add_comm]
  refine hr.2 (j + 2) v ?_
  cases xs with
  | nil => simp at hl; omega
  | cons x r => simpa [evs] using hv

/-- A slice of logs. -/
def Rw (w : World) (v : Value) (L : List (List Ent)) : Prop := ∃ A c, v = .slice A L.length c ∧ L.length ≤ c ∧ c ≤ maxLen ∧ (A = none → c = 0) ∧
  (0 < L.length → ∃ p, A = some p ∧ p.block < w.heap.size ∧ ∀ j xs, L[j]? = some xs → ∃ u, w.cell? (p.add j) = some u ∧ Sl w u xs)
theorem Rw.up {w w' : World} {v : Value} {L : List (List Ent)} (h : Rw w v L) (k : Up w w') : Rw w' v L := by
  obtain ⟨A, c, e, h1, h2, h3, h4⟩ := h
  refine ⟨A, c, e, h1, h2, h3, fun q => ?_⟩
  obtain ⟨p, e2, hp, h5⟩ := h4 q
  refine ⟨p, e2, Nat.lt_of_lt_of_le hp k.size, fun j xs hj => ?_⟩
  obtain ⟨u, hu, hs⟩ := h5 j xs hj
  exact ⟨u, (Below.cell k (by rw [block_of_add]; exact hp)).trans hu, hs.up k⟩
theorem Rw.at_ {w : World} {A : Option Addr} {n c x : Nat} {L : List (List Ent)} (h : Rw w (.slice A n c) L) (hx : x < n) : ∃ p u, A = some p ∧ w.cell? (p.add x) = some u ∧ Sl w u (L.getD x []) := by
  obtain ⟨A', c', e, h1, h2, h3, h4⟩ := h
  cases e
  obtain ⟨p, e2, hp, h5⟩ := h4 (by omega)
  obtain ⟨u, hu, hs⟩ := h5 x L[x] (List.getElem?_eq_getElem hx)
  exact ⟨p, u, e2, hu, by simpa [List.getD, List.getElem?_eq_getElem hx] using hs⟩
theorem Rw.max {w : World} {v : Value} {L : List (List Ent)} (h : Rw w v L) : L.length ≤ maxLen := by
  obtain ⟨A, c, e, h1, h2, _⟩ := h
  omega
theorem Rw.nil (w : World) : Rw w (.slice none 0 0) [] := ⟨none, 0, rfl, Nat.le_refl _, Nat.zero_le _, fun _ => rfl, fun q => absurd q (by simp)⟩

/-- The first place from i on whose log isn't empty, or how many logs there are. -/
def fdn (L : List (List Ent)) (i : Nat) : Nat := i + (L.drop i).findIdx (fun r => !r.isEmpty)
theorem fdn_end (L : List (List Ent)) : fdn L L.length = L.length := by simp [fdn]
theorem drop_one {α : Type} {xs : List α} {x : Nat} (d : α) (h : x < xs.length) : xs.drop x = xs.getD x d :: xs.drop (x + 1) := by
  rw [List.drop_eq_getElem_cons h]
  simp [List.getD, List.getElem?_eq_getElem h]
theorem fdn_step {L : List (List Ent)} {i : Nat} (h : i < L.length) (k : L.getD i [] = []) : fdn L i = fdn L (i + 1) := by
  unfold fdn
  rw [drop_one [] h, k, List.findIdx_cons]
  simp
  omega
theorem fdn_here {L : List (List Ent)} {i : Nat} (h : i < L.length) (k : L.getD i [] ≠ []) : fdn L i = i := by
  unfold fdn
  rw [drop_one [] h, List.findIdx_cons]
  generalize L.getD i [] = r at k
  cases r
  · exact absurd rfl k
  · simp
theorem fdn_le {L : List (List Ent)} {i : Nat} (h : i ≤ L.length) : fdn L i ≤ L.length := by
  unfold fdn
  have := List.findIdx_le_length (p := fun (r : List Ent) => !r.isEmpty) (xs := L.drop i)
  rw [List.length_drop] at this
  omega
theorem fdn_ge (L : List (List Ent)) (i : Nat) : i ≤ fdn L i := by unfold fdn; omega
/-- The closure's boxes: where it stands, and the logs. -/
structure FnOk (w : World) (B Bl : Nat) (v : Value) (i : Nat) : Prop where
  a : Blk w B 3 #[.int .i64 ((i : Int) - 1)]
  l : Blk w Bl 38 #[v]
theorem FnOk.up {w w' : World} {B Bl : Nat} {v : Value} {i : Nat} (h : FnOk w B Bl v i) (k : Up w w') : FnOk w' B Bl v i := ⟨h.a.up k, h.l.up k⟩
def FnPost (v : Value) (w : World) (e : Ending) (w' : World) : Prop := e = .returned (.func (.func 80) #[] #[bx (w.heap.size + 1), bx w.heap.size]) ∧ FnOk w' (w.heap.size + 1) w.heap.size v 0 ∧ Up w w'
theorem finder_any (v : Value) (hv : ∃ A n c, v = .slice A n c) (w : World) : Calls Try.prog 49 #[v] w (FnPost v w) := by
  obtain ⟨A, n, c, rfl⟩ := hv
  go_enter Try.func49, Try.ntmps49
  go_wp2
  go_ret
  exact ⟨rfl, ⟨Blk.new' _ (by simp) _ _, (Blk.new w _ _).alloc _⟩, ((Up.refl w).alloc _).alloc _⟩
def fdo (L : List (List Ent)) (i : Nat) : Value := .tuple #[.int .i64 (if fdn L i < L.length then (fdn L i : Nat) else 0 : Int), .bool (decide (fdn L i < L.length))]
/-- What the closure leaves. -/
def NxPost (L : List (List Ent)) (B Bl : Nat) (v : Value) (i : Nat) (w : World) (e : Ending) (w' : World) : Prop := e = .returned (fdo L i) ∧ Blk w' B 3 #[.int .i64 (fdn L i)] ∧ Kp [B] w w'
def atOf (w : World) (B : Nat) : Int := match w.cell? ⟨B, 0, none⟩ with | some (.int _ x) => x | _ => 0
theorem atOf_blk {w : World} {B : Nat} {x : Int} (h : Blk w B 3 #[.int .i64 x]) : atOf w B = x := by
  unfold atOf
  rw [h.cell 0]
  rfl
def NxRel (L : List (List Ent)) (B Bl n : Nat) (v : Value) (i : Nat) (w wr : World) : Prop := ∃ j : Nat, j ≤ n ∧ fdn L i = fdn L j ∧ Blk wr B 3 #[.int .i64 ((j : Int) - 1)] ∧ Blk wr Bl 38 #[v] ∧ Kp [B] w wr
set_option maxHeartbeats 2000000 in
theorem next_cl (v : Value) (L : List (List Ent)) (B Bl i : Nat) (w0 w : World) (hL : Rw w0 v L) (h0 : Up w0 w) (hB : w0.heap.size ≤ B) (hf : FnOk w B Bl v i) (hi : i ≤ L.length) :
    Calls Try.prog 80 #[bx B, bx Bl] w (NxPost L B Bl v i w) := by
  have hm := hL.max
  have hne : Bl ≠ B := fun e => by subst e; exact absurd rfl (Blk.ne_type hf.a hf.l (by decide))
  obtain ⟨hfa, hfl⟩ := hf
  have HL := Lib.hid hL
  obtain ⟨A, c, rfl, -⟩ := hL
  generalize hn : L.length = n at *
  have HN := Lib.hid hn
  unfold maxLen at hm
  clear hn
  go_enter Try.func80, Try.ntmps80
  go_wp2_with (fail)
  go_step3
  go_wp2_with (fail)
  go_step3
  go_wp2_with (fail)
  go_loopw [6] (fun u wr => NxRel L B Bl n (.slice A n c) i w wr) (fun _ wr => (n - atOf wr B).toNat)
  case atStart => exact ⟨i, hi, rfl, hfa, hfl, Kp.refl _ _⟩
  case round =>
    obtain ⟨j, hj, hfd, hb, hbl, hk⟩ := hrel
    have hbc := hb.cell
    have hbf := hb.frozen
    have hblt := hb.lt
    have hlc := hbl.cell
    have hlf := hbl.frozen
    have hllt := hbl.lt
    have hat := atOf_blk hb
    have hb1 : Blk (wr.setCell ⟨B, 0, none⟩ (.int .i64 j)) B 3 #[.int .i64 j] := by simpa using hb.set_ 0 (.int .i64 j)
    have hbl1 : Blk (wr.setCell ⟨B, 0, none⟩ (.int .i64 j)) Bl 38 #[.slice A n c] := hbl.far hne _
    have hk1 : Kp [B] w (wr.setCell ⟨B, 0, none⟩ (.int .i64 j)) := hk.set_ (by simp) _
    have hU : Up w0 (wr.setCell ⟨B, 0, none⟩ (.int .i64 j)) := h0.kp hk1 (fun x hx => by rw [List.mem_singleton.1 hx]; exact hB)
    have e1 : ((j : Int) - 1) + 1 = (j : Int) := by omega
    have HAT := Lib.hid hat
    have HFD := Lib.hid hfd
    have HB1 := Lib.hid hb1
    have HBL1 := Lib.hid hbl1
    have HK1 := Lib.hid hk1
    clear hat hfd hb1 hbl1 hk1 hk
    by_cases hlt : j < n
    · obtain ⟨p, u, rfl, hcu, hsu⟩ := (HL.out.up hU).at_ hlt
      have hlx : j < L.length := by rw [HN.out]; exact hlt
      have hd : decide ((n : Int) ≤ j) = false := decide_eq_false (by omega)
      by_cases hx : L.getD j [] = []
      · rw [hx] at hsu
        obtain ⟨Au, cu, rfl, -⟩ := hsu
        have HS := Lib.hid (fdn_step hlx hx)
        clear hx e1
        go_wp2
        refine ⟨⟨j + 1, by omega, HFD.out.trans HS.out, by rw [show (((j + 1 : Nat) : Int) - 1) = (j : Int) from by omega]; exact HB1.out, HBL1.out, HK1.out⟩, ?_⟩
        rw [atOf_blk HB1.out, HAT.out]
        omega
      · have hp : 0 < (L.getD j []).length := List.length_pos_iff.2 hx
        have HS := Lib.hid (fdn_here hlx hx)
        obtain ⟨Au, cu, rfl, -⟩ := hsu
        have hd2 : decide ((0 : Int) < ((L.getD j []).length : Int)) = true := decide_eq_true (by omega)
        generalize (L.getD j []).length = k at *
        clear hx e1
        go_wp2
        (try rw [Exit.noGoto_ret])
        go_ret2
        refine ⟨?_, by rw [HFD.out, HS.out]; exact HB1.out, HK1.out⟩
        unfold fdo
        rw [HFD.out, HS.out, decide_eq_true hlx, if_pos hlx]
        rfl
    · obtain rfl : j = n := by omega
      have hd : decide ((j : Int) ≤ j) = true := decide_eq_true (by omega)
      clear e1
      go_wp2
      (try rw [Exit.noGoto_ret])
      go_ret2
      have he : fdn L j = L.length := by rw [← HN.out]; exact fdn_end L
      refine ⟨?_, by rw [HFD.out, he, HN.out]; exact HB1.out, HK1.out⟩
      unfold fdo
      rw [HFD.out, he, decide_eq_false (Nat.lt_irrefl _), if_neg (Nat.lt_irrefl _)]
      rfl
set_option maxHeartbeats 1000000 in
theorem next_any (v : Value) (L : List (List Ent)) (w : World) (hL : Rw w v L) : Calls Try.prog 27 #[v] w fun e w' => e = .returned (fdo L 0) ∧ Up w w' := by
  have hf := Lib.hid (finder_any v (by obtain ⟨A, c, e, _⟩ := hL; exact ⟨_, _, _, e⟩) w)
  have hc := Lib.hid (fun (B Bl : Nat) (w' : World) (h0 : Up w w') (hB : w.heap.size ≤ B) (h : FnOk w' B Bl v 0) => next_cl v L B Bl 0 w w' hL h0 hB h (Nat.zero_le _))
  obtain ⟨A, c, rfl, -⟩ := hL
  generalize L.length = n at *
  have hv : ∃ a b, fdo L 0 = .tuple #[.int .i64 a, .bool b] := ⟨_, _, rfl⟩
  obtain ⟨a, b, hv⟩ := hv
  rw [hv]
  have HV := Lib.hid hv
  clear hv
  go_enter Try.func27, Try.ntmps27
  go_wp2_with (fail)
  refine hf.out.mono ?_
  rintro e w1 ⟨rfl, hfo, hU⟩
  have hB : w.heap.size ≤ w.heap.size + 1 := by omega
  go_wp2_with (fail)
  refine (hc.out _ _ _ hU hB hfo).mono ?_
  rintro e w2 ⟨rfl, hb, hk⟩
  rw [HV.out]
  have U2 := hU.kp hk (fun x hx => by rw [List.mem_singleton.1 hx]; exact hB)
  go_wp2
  go_ret2
  exact ⟨rfl, U2⟩

/-- How many entries, reckoned as the machine reckons. -/
def mny : List (List Ent) → Int → Int
  | [], a => a
  | r :: L, a => mny L (wrap64 (a + r.length))
theorem wrap_id {a : Int} (h : I64 a) : wrap64 a = a := by unfold I64 at h; unfold wrap64; omega
theorem wrap_i64 (a : Int) : I64 (wrap64 a) := by unfold I64 wrap64; omega
theorem mny_step {L : List (List Ent)} {i : Nat} (h : i < L.length) (a : Int) : mny (L.drop i) a = mny (L.drop (i + 1)) (wrap64 (a + (L.getD i []).length)) := by rw [drop_one [] h]; rfl
theorem mny_skip (L : List (List Ent)) (a : Int) (ha : I64 a) : ∀ k i, i + k ≤ L.length → (∀ j, i ≤ j → j < i + k → L.getD j [] = []) → mny (L.drop i) a = mny (L.drop (i + k)) a
  | 0, i, _, _ => rfl
  | k + 1, i, h, hz => by
    rw [mny_step (by omega), hz i (Nat.le_refl _) (by omega), show a + (([] : List Ent).length : Int) = a from by simp, wrap_id ha, mny_skip L a ha k (i + 1) (by omega) (fun j h1 h2 => hz j (by omega) (by omega)), show i + 1 + k = i + (k + 1) from by omega]
theorem fdn_empty {L : List (List Ent)} {i j : Nat} (h1 : i ≤ j) (h2 : j < fdn L i) : L.getD j [] = [] := by
  unfold fdn at h2
  have h := List.not_of_lt_findIdx (p := fun (r : List Ent) => !r.isEmpty) (xs := L.drop i) (i := j - i) (by omega)
  rw [List.getElem_drop] at h
  have hj : j < L.length := by
    have := List.findIdx_le_length (p := fun (r : List Ent) => !r.isEmpty) (xs := L.drop i)
    rw [List.length_drop] at this
    omega
  have e : L.getD j [] = L[i + (j - i)]'(by omega) := by
    simp only [List.getD, List.getElem?_eq_getElem hj, Option.getD_some]
    congr 1
    omega
  rw [e]
  simpa using h
theorem mny_fdn {L : List (List Ent)} {i : Nat} {a : Int} (ha : I64 a) (hi : i ≤ L.length) : mny (L.drop i) a = mny (L.drop (fdn L i)) a := by
  have h := mny_skip L a ha (fdn L i - i) i (by have := fdn_le hi; have := fdn_ge L i; omega) (fun j h1 h2 => fdn_empty h1 (by have := fdn_ge L i; omega))
  rw [h, show i + (fdn L i - i) = fdn L i from by have := fdn_ge L i; omega]
set_option maxHeartbeats 1000000 in
theorem rmany_any (v : Value) (L : List (List Ent)) (w : World) (hL : Rw w v L) : Calls Try.prog 12 #[v] w fun e w' => e = .returned (.int .i64 (mny L 0)) ∧ w = w' := by
  have hm := hL.max
  have HL := Lib.hid hL
  obtain ⟨A, c, rfl, -⟩ := hL
  generalize hn : L.length = n at *
  have HN := Lib.hid hn
  unfold maxLen at hm
  clear hn
  go_enter Try.func12, Try.ntmps12
  go_wp2
  go_loop [3, 4] (fun s i => ∃ (j : Nat) (a : Int), j ≤ n ∧ i = .int .i64 j ∧ s = .int .i64 a ∧ I64 a ∧ mny L 0 = mny (L.drop j) a) (fun _ i => n - (intOf i).toNat)
  case atStart => exact ⟨0, 0, Nat.zero_le _, rfl, rfl, by unfold I64; omega, rfl⟩
  case round =>
    obtain ⟨j, a, hj, rfl, rfl, ha, hfd⟩ := hrel
    have HFD := Lib.hid hfd
    have HA := Lib.hid ha
    clear hfd ha
    by_cases hlt : j < n
    · obtain ⟨p, u, rfl, hcu, hsu⟩ := HL.out.at_ hlt
      have hlx : j < L.length := by rw [HN.out]; exact hlt
      have HS := Lib.hid (mny_step hlx a)
      have hml := hsu.max
      obtain ⟨Au, cu, rfl, -⟩ := hsu
      generalize (L.getD j []).length = k at *
      go_wp2
      go_round
      case rel => exact ⟨j + 1, wrap64 (a + k), by omega, by go_num, rfl, wrap_i64 _, HFD.out.trans HS.out⟩
      case measure => simp [intOf]; omega
    · obtain rfl : j = n := by omega
      go_wp2
      go_ret
      refine ⟨?_, rfl⟩
      rw [HFD.out, ← HN.out, List.drop_length]
      rfl

end Go.Proofs.Ytgcpkgogjcgfbaa.E
namespace Go.Proofs.Ytgcpkgogjcgfbaa.E
open Go.Joins Go.ChangeShapes Go.WideShapes Go.ChangeAt Go.RowKit Go.Deep Go.Shelf Go.Maps
set_option linter.unusedVariables false
set_option linter.unusedSimpArgs false

/-! ### Keys -/
def OkE (a : Ent) : Prop := U64 a.1 ∧ I64 a.2
theorem wf_of_i64 {a : Int} (h : I64 a) : (Lit.int .i64 a).wf = true := by
  have e : IntKind.i64.min = -9223372036854775808 := by decide
  have e2 : IntKind.i64.max = 9223372036854775807 := by decide
  simp [Lit.wf, e, e2]
  exact h

/-! ### How much there is -/
theorem bulk_one {H : Type} (d : DataW H) : 1 ≤ Rows.uptoBulk d := by
  cases d with
  | lit l => cases l <;> simp [Rows.uptoBulk]
  | nil => simp [Rows.uptoBulk]
  | ptr d => simp [Rows.uptoBulk]
  | slice elems spare => simp [Rows.uptoBulk]
  | agg parts => simp [Rows.uptoBulk]
  | iface t d => simp [Rows.uptoBulk]
  | map entries => simp [Rows.uptoBulk]
  | held h => simp [Rows.uptoBulk]
theorem bulk_len {H : Type} (l : List (DataW H)) : l.length ≤ Rows.uptoBulkAll l := by
  induction l with
  | nil => simp [Rows.uptoBulkAll]
  | cons x r ih => have := bulk_one x; simp only [Rows.uptoBulkAll, List.length_cons]; omega
theorem weights_in {H : Type} {P : Program} {e : TypeId} : ∀ {ds : List (DataW H)} {d : DataW H}, d ∈ ds → ∀ n ∈ d.weights P e, n ∈ DataW.weightsAll P e ds
  | x :: r, d, h, n, hn => by
    simp only [DataW.weightsAll, List.mem_append]
    rcases List.mem_cons.1 h with rfl | h
    · exact .inl hn
    · exact .inr (weights_in h n hn)
set_option maxRecDepth 100000 in
theorem bytes_ent : Try.prog.bytesOf 46 = 16 := by kernel_rfl
set_option maxRecDepth 100000 in
theorem bytes_ents : Try.prog.bytesOf 32 = 24 := by kernel_rfl
set_option maxRecDepth 100000 in
theorem cells_ent : Try.prog.cellsOf 46 = 2 := by kernel_rfl
set_option maxRecDepth 100000 in
theorem cells_ents : Try.prog.cellsOf 32 = 1 := by kernel_rfl
set_option maxRecDepth 100000 in
theorem cells_rows : Try.prog.cellsOf 38 = 1 := by kernel_rfl
/-- All weights are within reach. -/
def Light {H : Type} (t : TypeId) (d : DataW H) : Prop := ∀ n ∈ d.weights Try.prog t, n ≤ reachBytes
theorem bulk_app {H : Type} (l r : List (DataW H)) : Rows.uptoBulkAll (l ++ r) = Rows.uptoBulkAll l + Rows.uptoBulkAll r := by
  induction l with
  | nil => simp [Rows.uptoBulkAll]
  | cons x l ih => simp only [List.cons_append, Rows.uptoBulkAll, ih]; omega
theorem sum_bulk {H : Type} (D : Nat → DataW H) (Z : Nat → List Ent) : ∀ n, (∀ r, r < n → (Z r).length + 1 ≤ Rows.uptoBulk (D r)) → ((List.range n).map Z).flatten.length + n ≤ Rows.uptoBulkAll ((List.range n).map D)
  | 0, _ => by simp [Rows.uptoBulkAll]
  | n + 1, h => by
    have ih := sum_bulk D Z n (fun r hr => h r (by omega))
    have h1 := h n (by omega)
    rw [List.range_succ, List.map_append, List.map_append, bulk_app]
    simp only [List.map_cons, List.map_nil, Rows.uptoBulkAll, List.flatten_append, List.length_append, List.flatten_cons, List.flatten_nil, List.append_nil]
    omega
theorem evs_inv : ∀ (xs : List Ent) (j : Nat) (v : Value), (evs xs)[j]? = some v → ∃ i x, xs[i]? = some x ∧ ((j = i * 2 ∧ v = .int .u64 x.1) ∨ (j = i * 2 + 1 ∧ v = .int .i64 x.2))
  | [], j, v, h => by simp [evs] at h
  | y :: r, 0, v, h => ⟨0, y, rfl, .inl ⟨rfl, by simpa [evs] using h.symm⟩⟩
  | y :: r, 1, v, h => ⟨0, y, rfl, .inr ⟨rfl, by simpa [evs] using h.symm⟩⟩
  | y :: r, j + 2, v, h => by
    obtain ⟨i, x, h1, h2⟩ := evs_inv r j v (by simpa [evs] using h)
    refine ⟨i + 1, x, by simpa using h1, ?_⟩
    rcases h2 with ⟨h2, h3⟩ | ⟨h2, h3⟩
    · exact .inl ⟨by omega, h3⟩
    · exact .inr ⟨by omega, h3⟩

/-! ### Opened -/
section
variable {H : Type} {enc : TypeId × Value → H} {w : World}
theorem int_at {fuel : Nat} {v : Value} {x : DataW H × List MemPlace} (h : DataW.trod enc Try.prog w 0 (fun _ => true) true fuel 3 [v] = some x) : ∃ n : Int, v = .int .i64 n ∧ I64 n := by
  obtain ⟨n, e, _, hw⟩ := DataW.trod_int Try.underlying3 h
  simp only [List.cons.injEq, and_true] at e
  exact ⟨n, e, i64_of_wf hw⟩
theorem u64_at {fuel : Nat} {v : Value} {x : DataW H × List MemPlace} (h : DataW.trod enc Try.prog w 0 (fun _ => true) true fuel 44 [v] = some x) : ∃ n : Int, v = .int .u64 n ∧ U64 n := by
  obtain ⟨n, e, _, hw⟩ := DataW.trod_int Try.underlying44 h
  simp only [List.cons.injEq, and_true] at e
  exact ⟨n, e, nn_of_wf hw, hi_of_wf hw⟩
set_option maxRecDepth 100000 in
theorem ent_cells {fuel : Nat} {cs : List Value} {x : DataW H × List MemPlace} (h : DataW.trod enc Try.prog w 0 (fun _ => true) true fuel 46 cs = some x) : ∃ z : Ent, cs = [.int .u64 z.1, .int .i64 z.2] ∧ OkE z := by
  obtain ⟨ys, n, _, hd, hcl, hlen, hg⟩ := DataW.trod_struct Try.underlying46 h
  rw [cells_ent] at hcl
  match cs, hcl with
  | [c0, c1], _ =>
    have f0 := hg 0 _ rfl
    have f1 := hg 1 _ rfl
    match ys, hlen with
    | [y0, y1], _ =>
      change DataW.trod enc Try.prog w 0 (fun _ => true) true n 44 (([c0, c1].drop 0).take (Try.prog.cellsOf 44)) = some y0 at f0
      rw [cells_u64] at f0
      change DataW.trod enc Try.prog w 0 (fun _ => true) true n 3 (([c0, c1].drop 1).take (Try.prog.cellsOf 3)) = some y1 at f1
      rw [cells_int] at f1
      obtain ⟨a, rfl, ha⟩ := u64_at (v := c0) f0
      obtain ⟨b, rfl, hb⟩ := int_at (v := c1) f1
      exact ⟨(a, b), rfl, ha, hb⟩
set_option maxRecDepth 100000 in
theorem ents_sl {fuel : Nat} {v : Value} {x : DataW H × List MemPlace} (h : DataW.trod enc Try.prog w 0 (fun _ => true) true fuel 32 [v] = some x) :
    ∃ xs, Sl w v xs ∧ (∀ y ∈ xs, OkE y) ∧ xs.length + 1 ≤ Rows.uptoBulk x.1 ∧ (Light 32 x.1 → xs.length ≤ 8796093021952) := by
  rcases open_slice Try.underlying32 h with ⟨h0, rfl⟩ | ⟨a, len, cap, m, n, D, Pl, hcs, -, hl, hm, hmm, rfl, hi⟩
  · simp only [List.cons.injEq, and_true] at h0
    subst h0
    exact ⟨[], Sl.nil w, fun y hy => (by cases hy), by simp [Rows.uptoBulk], fun _ => by simp⟩
  · simp only [List.cons.injEq, and_true] at hcs
    subst hcs
    simp only [if_true] at hmm
    subst hmm
    have hz : ∀ i, i < m → ∃ z : Ent, (w.cell? (a.add (i * 2)) = some (.int .u64 z.1) ∧ w.cell? (a.add (i * 2 + 1)) = some (.int .i64 z.2)) ∧ OkE z := by
      intro i him
      obtain ⟨cs', h1, h2⟩ := hi i him
      rw [cells_ent] at h1
      obtain ⟨z, rfl, hok⟩ := ent_cells h2
      obtain ⟨_, _, h3⟩ := World.cells?_some h1
      have e0 := h3 0 (by omega)
      have e1 := h3 1 (by omega)
      rw [Addr.add_zero'] at e0
      rw [add_add] at e1
      exact ⟨z, ⟨e0, e1⟩, hok⟩
    obtain ⟨Z, hZ⟩ := choose_lt hz
    have hlen : ((List.range len).map Z).length = len := by simp
    refine ⟨(List.range len).map Z, ⟨some a, m, by rw [hlen], by rw [hlen]; exact hl, hm, fun q => (by cases q), hlen.symm ▸ rfl, fun hn => ⟨a, rfl, ?_, fun j v hv => ?_⟩⟩, fun y hy => ?_, ?_, fun hL => ?_⟩
    · rw [hlen] at hn
      have := lt_of_cell (hZ 0 (by omega)).1.1
      rwa [block_of_add] at this
    · obtain ⟨i, x, h1, h2⟩ := evs_inv _ j v hv
      have hil : i < len := by
        rcases Nat.lt_or_ge i len with q | q
        · exact q
        · rw [List.getElem?_eq_none (by rw [hlen]; exact q)] at h1; cases h1
      rw [List.getElem?_map, List.getElem?_range hil] at h1
      cases h1
      rcases h2 with ⟨rfl, rfl⟩ | ⟨rfl, rfl⟩
      · exact (hZ i (by omega)).1.1
      · exact (hZ i (by omega)).1.2
    · obtain ⟨i, hi', rfl⟩ := List.mem_map.1 hy
      exact (hZ i (by have := List.mem_range.1 hi'; omega)).2
    · rw [hlen]
      simp only [Rows.uptoBulk]
      have := bulk_len ((List.range len).map D)
      rw [List.length_map, List.length_range] at this
      omega
    · have := hL ((len + (m - len)) * 16) (by
        unfold DataW.weights
        rw [Try.underlying32]
        simp only [List.mem_cons, bytes_ent, List.length_map, List.length_range]
        exact .inl trivial)
      unfold reachBytes at this
      rw [hlen]
      omega
set_option maxRecDepth 100000 in
theorem rows_rw {fuel : Nat} {v : Value} {x : DataW H × List MemPlace} (h : DataW.trod enc Try.prog w 0 (fun _ => true) true fuel 38 [v] = some x) :
    ∃ L, Rw w v L ∧ (∀ r ∈ L, ∀ y ∈ r, OkE y) ∧ L.flatten.length + L.length ≤ Rows.uptoBulk x.1 ∧ (Light 38 x.1 → ∀ r ∈ L, r.length ≤ 8796093021952) := by
  rcases open_slice1 Try.underlying38 cells_ents h with ⟨h0, rfl⟩ | ⟨a, len, cap, m, n, V, D, Pl, hcs, -, hl, hm, hmm, rfl, hi⟩
  · simp only [List.cons.injEq, and_true] at h0
    subst h0
    exact ⟨[], Rw.nil w, by simp, by simp [Rows.uptoBulk], fun _ r hr => (by cases hr)⟩
  · simp only [List.cons.injEq, and_true] at hcs
    subst hcs
    simp only [if_true] at hmm
    subst hmm
    obtain ⟨Z, hZ⟩ := choose_lt (α := List Ent) (n := m) (p := fun i xs => Sl w (V i) xs ∧ xs.length + 1 ≤ Rows.uptoBulk (D i) ∧ (∀ y ∈ xs, OkE y) ∧ (Light 32 (D i) → xs.length ≤ 8796093021952)) (fun i him => by
      obtain ⟨xs, h1, h3, h2, h4⟩ := ents_sl (hi i him).2
      exact ⟨xs, h1, h2, h3, h4⟩)
    have hlen : ((List.range len).map Z).length = len := by simp
    refine ⟨(List.range len).map Z, ⟨some a, m, by rw [hlen], by rw [hlen]; exact hl, hm, fun q => (by cases q), fun hp => ⟨a, rfl, ?_, fun j xs hj => ?_⟩⟩, fun r hr => ?_, ?_, fun hL r hr => ?_⟩
    · rw [hlen] at hp
      have := lt_of_cell (hi 0 (by omega)).1
      rwa [block_of_add] at this
    · have hjl : j < len := by
        rcases Nat.lt_or_ge j len with q | q
        · exact q
        · rw [List.getElem?_eq_none (by rw [hlen]; exact q)] at hj; cases hj
      rw [List.getElem?_map, List.getElem?_range hjl] at hj
      cases hj
      exact ⟨_, (hi j (by omega)).1, (hZ j (by omega)).1⟩
    · obtain ⟨i, hi', rfl⟩ := List.mem_map.1 hr
      exact (hZ i (by have := List.mem_range.1 hi'; omega)).2.2.1
    · have hs := sum_bulk D Z len (fun r hr => (hZ r (by omega)).2.1)
      rw [hlen]
      simp only [Rows.uptoBulk]
      omega
    · obtain ⟨i, hi', rfl⟩ := List.mem_map.1 hr
      have hil := List.mem_range.1 hi'
      refine (hZ i (by omega)).2.2.2 (fun q hq => hL q ?_)
      unfold DataW.weights
      rw [Try.underlying38]
      have hin := weights_in (ds := (List.range len).map D) (d := D i) (List.mem_map.2 ⟨i, hi', rfl⟩) q hq
      simp only [List.mem_cons, List.mem_append]
      first
        | exact .inr (.inl hin)
        | exact .inr hin
set_option maxRecDepth 100000 in
theorem ents_at {r : Reach} {b0 : Nat} {v : Value} {d : DataW H} {p : List MemPlace} (hv : Value.okWide Try.prog w r b0 32 v) (h : DataW.Trod enc Try.prog w 0 (fun _ => true) true 32 v d p) :
    ∃ xs, Sl w v xs ∧ (∀ y ∈ xs, OkE y) ∧ xs.length + 1 ≤ Rows.uptoBulk d ∧ (Light 32 d → xs.length ≤ 8796093021952) := by
  obtain ⟨a, len, cap, rfl⟩ := okWide_slice Try.underlying32 hv
  obtain ⟨fuel, hf⟩ := h
  exact ents_sl (x := (d, p)) hf
set_option maxRecDepth 100000 in
theorem rows_at {r : Reach} {b0 : Nat} {v : Value} {d : DataW H} {p : List MemPlace} (hv : Value.okWide Try.prog w r b0 38 v) (h : DataW.Trod enc Try.prog w 0 (fun _ => true) true 38 v d p) :
    ∃ L, Rw w v L ∧ (∀ r ∈ L, ∀ y ∈ r, OkE y) ∧ L.flatten.length + L.length ≤ Rows.uptoBulk d ∧ (Light 38 d → ∀ r ∈ L, r.length ≤ 8796093021952) := by
  obtain ⟨a, len, cap, rfl⟩ := okWide_slice Try.underlying38 hv
  obtain ⟨fuel, hf⟩ := h
  exact rows_rw (x := (d, p)) hf
set_option maxRecDepth 100000 in
theorem ent_at {r : Reach} {b0 : Nat} {v : Value} {d : DataW H} {p : List MemPlace} (hv : Value.okWide Try.prog w r b0 46 v) (h : DataW.Trod enc Try.prog w 0 (fun _ => true) true 46 v d p) :
    ∃ z : Ent, v = ev z ∧ OkE z := by
  obtain ⟨⟨l⟩, rfl, hsz⟩ := okWide_struct Try.underlying46 hv
  obtain ⟨fuel, hf⟩ := h
  obtain ⟨z, hz, hok⟩ := ent_cells (x := (d, p)) (cs := l) hf
  exact ⟨z, by rw [hz], hok⟩
end


end Go.Proofs.Ytgcpkgogjcgfbaa.E
namespace Go.Proofs.Ytgcpkgogjcgfbaa.E
open Go.Joins Go.ChangeShapes Go.WideShapes Go.ChangeAt Go.RowKit Go.Deep Go.Shelf Go.Maps
set_option linter.unusedVariables false
set_option linter.unusedSimpArgs false

theorem getD_mem {α : Type} {L : List α} {x : Nat} (d : α) (h : x < L.length) : L.getD x d ∈ L := by simp [List.getD, List.getElem?_eq_getElem h]
/-- A room, how many, an error. -/
def DnPost (w : World) (s l x y : Int) (z : Dn) (e : Ending) (w' : World) : Prop :=
  ∃ (P' Q' : Addr) (c' d' : Nat), e = .returned (.tuple #[rov z.m.n (sl P' z.m.n c') (sl Q' z.m.n d') s z.a l x y, .int .i64 z.n, .int .i64 z.e]) ∧ Sits w' z.m P' Q' c' d' ∧ Up w w'
/-- What holds of a room. -/
structure Rg (s l : Int) (m : Me) (a : Int) : Prop where
  wf : m.wf
  rg : rgt s a l
  hl : l = m.n
theorem Rg.kb {s l : Int} {m m' : Me} {a a' : Int} (h : Rg s l m a) (k : Kb m a m' a') : Rg s l m' a' := ⟨k.wf, (k.rg h.rg h.hl).1, (k.rg h.rg h.hl).2⟩
/-- What holds at the label. -/
def AtD (Z : Dn) (s l x y : Int) (L : List Ent) (n : Nat) (v0 : Value) (A : Option Addr) (cap : Nat) (w : World) (a' : Act) (w' : World) : Prop :=
  ∃ (j : Nat) (m : Me) (a : Int) (P Q : Addr) (c d : Nat) (u3 u8 u9 u10 u11 u12 u13 u14 u15 u16 u17 u18 u19 u20 u21 u22 u23 u24 u25 u26 u27 u28 u29 u30 u31 u32 : Value),
    a' = { tmps := #[v0, .slice A n cap, bx w.heap.size, u3, bx (w.heap.size + 1), .int .i64 0, .int .i64 0, .int .i64 j, u8, u9, u10, u11, u12, u13, u14, u15, u16, u17, u18, u19, u20, u21, u22, u23, u24, u25, u26, u27, u28, u29, u30, u31, u32], defers := [] }
      ∧ j ≤ n ∧ Sits w' m P Q c d ∧ Rg s l m a ∧ Z = ⟨(don s l (L.drop j) m a).m, (don s l (L.drop j) m a).a, j + (don s l (L.drop j) m a).n, (don s l (L.drop j) m a).e⟩ ∧ Up w w'
      ∧ Blk w' w.heap.size 31 (roc m.n (sl P m.n c) (sl Q m.n d) s a l x y) ∧ Blk w' (w.heap.size + 1) 31 zr

set_option maxRecDepth 100000 in
set_option maxHeartbeats 4000000 in
/-- Some entries, one after the other. -/
theorem done_any (m : Me) (s a l x y : Int) (P Q : Addr) (c d : Nat) (v : Value) (L : List Ent) (w : World) (hm : Sits w m P Q c d) (hwf : m.wf) (hr : rgt s a l) (hl : l = m.n) (hv : Sl w v L) (hu : ∀ z ∈ L, U64 z.1) :
    Calls Try.prog 25 #[rov m.n (sl P m.n c) (sl Q m.n d) s a l x y, v] w (DnPost w s l x y (don s l L m a)) := by
  have hmax := hv.max
  obtain ⟨A, cap, rfl, -, -, -, hrd⟩ := hv
  obtain ⟨Z, hZ⟩ : ∃ Z, don s l L m a = Z := ⟨_, rfl⟩
  rw [hZ]
  generalize hn : L.length = n at *
  have HN := Lib.hid hn
  have HL := Lib.hid hrd
  have HU := Lib.hid hu
  unfold maxLen at hmax
  have hsit0 := Lib.hid hm
  have hrg := Lib.hid (show Rg s l m a from ⟨hwf, hr, hl⟩)
  have HZ0 := Lib.hid (show Z = ⟨(don s l (L.drop 0) m a).m, (don s l (L.drop 0) m a).a, 0 + (don s l (L.drop 0) m a).n, (don s l (L.drop 0) m a).e⟩ from by rw [List.drop_zero, hZ, Nat.zero_add])
  clear hm hwf hr hl hZ hrd hu hn
  go_enter Try.func25, Try.ntmps25
  go_wp2
  refine wp_scope_jumps 0 (AtD Z s l x y L n (rov m.n (sl P m.n c) (sl Q m.n d) s a l x y) A cap w) (fun a' _ => n - (intOf (a'.tmps.getD 7 undef)).toNat) rfl ?_ ?_
  · obtain ⟨w1, hW⟩ : ∃ W, W = (w.alloc (.cells (roc m.n (sl P m.n c) (sl Q m.n d) s a l x y) 31)).alloc (.cells zr 31) := ⟨_, rfl⟩
    have U : Up w w1 := by rw [hW]; exact ((Up.refl w).alloc _).alloc _
    have X : Blk w1 w.heap.size 31 (roc m.n (sl P m.n c) (sl Q m.n d) s a l x y) := by rw [hW]; exact (Blk.new' w rfl _ _).alloc _
    have Z0 : Blk w1 (w.heap.size + 1) 31 zr := by rw [hW]; exact Blk.new' _ (by simp) _ _
    simp only [roc, zr] at hW
    rw [← hW]
    clear hW
    have hsit := Lib.hid (hsit0.out.up U)
    have HZ := HZ0
    clear HZ0 hsit0
    go_wp2_with (fail)
    go_step3
    have Xc := X.cell
    have Xf := X.frozen
    have Xl := X.lt
    have Zc := Z0.cell
    have Zf := Z0.frozen
    have Zl := Z0.lt
    simp only [zr, roc] at Xc Zc
    by_cases hlt : 0 < n
    · have hlx : 0 < L.length := by rw [HN.out]; exact hlt
      have hat := (HL.out.up U).at_ hlt
      have hy : U64 (L.getD 0 (0, 0)).1 := HU.out _ (getD_mem _ hlx)
      have hS := drop_one (0, 0) hlx
      obtain ⟨⟨o, f⟩, hof⟩ : ∃ z, L.getD 0 (0, 0) = z := ⟨_, rfl⟩
      rw [hof] at hat hy hS
      obtain ⟨p, hp, hc1, hc2⟩ := hat
      subst hp
      simp only [] at hc1 hc2 hy
      rw [Nat.zero_mul, Addr.add_zero'] at hc1 hc2
      have HC := Lib.hid (fun (V : World) (hV : Up w1 V) => one_any m s a l x y o f P Q c d V (hsit.out.up hV) hrg.out.wf hy hrg.out.rg hrg.out.hl)
      have hkb := Lib.hid (rep_kb hsit.out.1 hrg.out.wf hrg.out.rg hrg.out.hl o f)
      obtain ⟨R, hR⟩ : ∃ R, rep m s a l o f = R := ⟨_, rfl⟩
      obtain ⟨K, a', er⟩ := R
      rw [hR] at HC hkb
      have HR := Lib.hid hR
      have HZ2 := Lib.hid (And.intro HZ.out hS)
      clear HZ
      simp only [RpPost] at HC
      clear hof hy hS hR
      have hold : ∀ V : World, Up w1 V → (V.cell? p = some (.int .u64 o) ∧ V.cell? ⟨p.block, p.off + 1, none⟩ = some (.int .i64 f)) ∧ (∀ i, V.cell? ⟨w.heap.size, i, none⟩ = (#[.int .i64 m.n, .slice (some P) m.n c, .slice (some Q) m.n d, .int .i64 s, .int .i64 a, .int .i64 l, .int .i64 x, .int .i64 y] : Array Value)[i]?) := fun V hV => by
        exact ⟨⟨(Below.cell hV (lt_of_cell hc1)).trans hc1, (Below.cell hV (lt_of_cell hc2)).trans hc2⟩, fun i => by simpa [roc] using (X.up hV).cell i⟩
      replace hold := Lib.hid hold
      have V0 : Up w1 (World.drew w1) := (Up.refl w1).drew
      have V1 : Up w1 (World.drew (World.alloc w1 (.cells zr 31))) := ((Up.refl w1).alloc _).drew
      have hne : ((0 : Int) == (n : Int)) = false := beq_eq_false_iff_ne.mpr (by omega)
      go_wp2_with (fail)
      go_region_held3 (fun w' => (w'.cell? p = some (.int .u64 o) ∧ w'.cell? ⟨p.block, p.off + 1, none⟩ = some (.int .i64 f)) ∧ (∀ i, w'.cell? ⟨w.heap.size, i, none⟩ = (#[.int .i64 m.n, .slice (some P) m.n c, .slice (some Q) m.n d, .int .i64 s, .int .i64 a, .int .i64 l, .int .i64 x, .int .i64 y] : Array Value)[i]?))
        (first
          | with_reducible exact hold.out _ V0
          | with_reducible exact hold.out _ V1
          | with_reducible exact hold.out _ UZ
          | with_reducible exact hold.out _ (Up.alloc UZ _)
          | with_reducible exact hold.out _ (Up.set8 UZ (Nat.le_refl _) _ _ _ _ _ _ _ _))
        (first
          | ((with_reducible refine (HC.out (World.drew w1) V0).mono ?_); (rintro e wz ⟨P', Q', c', d', rfl, sz, hz⟩); have UZ := Up.trans V0 hz)
          | ((with_reducible refine (HC.out (World.drew (World.alloc w1 _)) V1).mono ?_); (rintro e wz ⟨P', Q', c', d', rfl, sz, hz⟩); have UZ := Up.trans V1 hz; have NZ := (Blk.new w1 31 zr).drew.up hz; have NZc := NZ.cell; have NZf := NZ.frozen; have NZl := NZ.lt))
      all_goals
        first
          | with_reducible refine gen_exit (Y := fun W2 => Up w1 W2 ∧ Sits W2 K P' Q' c' d' ∧ Blk W2 wz.heap.size 31 #[.int .i64 K.n, .slice (some P') K.n c', .slice (some Q') K.n d', .int .i64 s, .int .i64 a', .int .i64 l, .int .i64 x, .int .i64 y]) ⟨UZ.alloc _, sz.up ((Up.refl wz).alloc _), Blk.new wz _ _⟩ ?_
          | with_reducible refine gen_exit (Y := fun W2 => Up w1 W2 ∧ Sits W2 K P' Q' c' d' ∧ Blk W2 (World.heap w1).size 31 #[.int .i64 K.n, .slice (some P') K.n c', .slice (some Q') K.n d', .int .i64 s, .int .i64 a', .int .i64 l, .int .i64 x, .int .i64 y]) ⟨UZ.set8 (Nat.le_refl _) _ _ _ _ _ _ _ _, sz.far8 NZ _ _ _ _ _ _ _ _, NZ.set8 _ _ _ _ _ _ _ _⟩ ?_
        rintro W2 ⟨UW, s2, N2⟩
        (try clear NZc NZf NZl NZ)
        first
          | generalize wz.heap.size = G at N2 ⊢
          | generalize (World.heap w1).size = G at N2 ⊢
        have U2 := U.trans UW
        have X2 := X.up UW
        have Z2 := Z0.up UW
        have hsit2 := Lib.hid (hsit.out.up UW)
        rename_i hHeld
        clear hHeld Xc Xf Xl Zc Zf Zl hold HC hc1 hc2 UZ hz sz
        have N2c := N2.cell
        have X2c := X2.cell
        have X2f := X2.frozen
        have X2l := X2.lt
        have Z2c := Z2.cell
        have Z2f := Z2.frozen
        have Z2l := Z2.lt
        simp only [zr, roc] at X2c Z2c
        by_cases e : er = 0
        · subst e
          have HD := Lib.hid (show Z = ⟨(don s l (L.drop (1)) K a').m, (don s l (L.drop (1)) K a').a, 1 + (don s l (L.drop (1)) K a').n, (don s l (L.drop (1)) K a').e⟩ from by
            have h1 := HZ2.out.1
            rw [HZ2.out.2, don_yes (by rw [HR.out]), HR.out] at h1
            rw [h1]
            simp only [Dn.mk.injEq, true_and, and_true, Nat.zero_add]
            omega)
          clear HZ2
          have hs3 := s2.far8 X2 (.int .i64 K.n) (sl P' K.n c') (sl Q' K.n d') (.int .i64 s) (.int .i64 a') (.int .i64 l) (.int .i64 x) (.int .i64 y)
          go_wp2_with (fail)
          go_step3
          refine ⟨rfl, ⟨1, K, a', P', Q', c', d', _, _, _, _, _, _, _, _, _, _, _, _, _, _, _, _, _, _, _, _, _, _, _, _, _, _, rfl, by omega, hs3, hrg.out.kb hkb.out, HD.out, U2.set8 (Nat.le_refl _) _ _ _ _ _ _ _ _, X2.set8 _ _ _ _ _ _ _ _, Z2.far8 (by omega) _ _ _ _ _ _ _ _⟩⟩
          skip
        · have HD := Lib.hid (show Z = ⟨m, a, 0, er⟩ from by
            have h1 := HZ2.out.1
            rw [HZ2.out.2, don_no (by rw [HR.out]; exact e), HR.out] at h1
            exact h1)
          have hb : (er != 0) = true := bne_iff_ne.mpr e
          clear e HZ2
          go_wp2_with (fail)
          (try simp only [Exit.jump])
          refine bodyPost_ret (ret_room3 rfl _ _ _ m.n s a l x y (sl P m.n c) (sl Q m.n d) _ _ rfl (Z2.set8 (.int .i64 m.n) (sl P m.n c) (sl Q m.n d) (.int .i64 s) (.int .i64 a) (.int .i64 l) (.int .i64 x) (.int .i64 y)) rfl rfl) rfl ?_
          rw [HD.out]
          exact ⟨P, Q, c, d, rfl, hsit2.out.far8 Z2 _ _ _ _ _ _ _ _, U2.set8 (by omega) _ _ _ _ _ _ _ _⟩
    · obtain rfl : n = 0 := by omega
      have HD := Lib.hid (show Z = ⟨m, a, 0, 0⟩ from by
        have h1 := HZ.out
        rw [show L.drop 0 = [] from by rw [List.drop_zero]; exact List.eq_nil_of_length_eq_zero HN.out] at h1
        exact h1)
      clear HZ
      have hne : ((0 : Int) == ((0 : Nat) : Int)) = true := rfl
      go_wp2_with (fail)
      (try simp only [Exit.jump])
      refine bodyPost_ret (ret_room3 rfl _ _ _ m.n s a l x y (sl P m.n c) (sl Q m.n d) _ _ rfl (Z0.set8 (.int .i64 m.n) (sl P m.n c) (sl Q m.n d) (.int .i64 s) (.int .i64 a) (.int .i64 l) (.int .i64 x) (.int .i64 y)) rfl rfl) rfl ?_
      rw [HD.out]
      exact ⟨P, Q, c, d, rfl, hsit.out.far8 Z0 _ _ _ _ _ _ _ _, U.set8 (by omega) _ _ _ _ _ _ _ _⟩
  · clear HZ0 hsit0 hrg
    rintro a0 w1 ⟨j, m, a, P, Q, c, d, u3, u8, u9, u10, u11, u12, u13, u14, u15, u16, u17, u18, u19, u20, u21, u22, u23, u24, u25, u26, u27, u28, u29, u30, u31, u32, rfl, hj, hsit, hrg, HZ, U, X, Z0⟩
    replace hsit := Lib.hid hsit
    replace hrg := Lib.hid hrg
    replace HZ := Lib.hid HZ
    have Xc := X.cell
    have Xf := X.frozen
    have Xl := X.lt
    have Zc := Z0.cell
    have Zf := Z0.frozen
    have Zl := Z0.lt
    simp only [zr, roc] at Xc Zc
    by_cases hlt : j < n
    · have hlx : j < L.length := by rw [HN.out]; exact hlt
      have hat := (HL.out.up U).at_ hlt
      have hy : U64 (L.getD j (0, 0)).1 := HU.out _ (getD_mem _ hlx)
      have hS := drop_one (0, 0) hlx
      obtain ⟨⟨o, f⟩, hof⟩ : ∃ z, L.getD j (0, 0) = z := ⟨_, rfl⟩
      rw [hof] at hat hy hS
      obtain ⟨p, hp, hc1, hc2⟩ := hat
      subst hp
      simp only [] at hc1 hc2 hy
      skip
      have HC := Lib.hid (fun (V : World) (hV : Up w1 V) => one_any m s a l x y o f P Q c d V (hsit.out.up hV) hrg.out.wf hy hrg.out.rg hrg.out.hl)
      have hkb := Lib.hid (rep_kb hsit.out.1 hrg.out.wf hrg.out.rg hrg.out.hl o f)
      obtain ⟨R, hR⟩ : ∃ R, rep m s a l o f = R := ⟨_, rfl⟩
      obtain ⟨K, a', er⟩ := R
      rw [hR] at HC hkb
      have HR := Lib.hid hR
      have HZ2 := Lib.hid (And.intro HZ.out hS)
      clear HZ
      simp only [RpPost] at HC
      clear hof hy hS hR
      have hold : ∀ V : World, Up w1 V → (V.cell? (p.add (j * 2)) = some (.int .u64 o) ∧ V.cell? ⟨(p.add (j * 2)).block, (p.add (j * 2)).off + 1, none⟩ = some (.int .i64 f)) ∧ (∀ i, V.cell? ⟨w.heap.size, i, none⟩ = (#[.int .i64 m.n, .slice (some P) m.n c, .slice (some Q) m.n d, .int .i64 s, .int .i64 a, .int .i64 l, .int .i64 x, .int .i64 y] : Array Value)[i]?) := fun V hV => by
        exact ⟨⟨(Below.cell hV (lt_of_cell hc1)).trans hc1, (Below.cell hV (lt_of_cell hc2)).trans hc2⟩, fun i => by simpa [roc] using (X.up hV).cell i⟩
      replace hold := Lib.hid hold
      have V0 : Up w1 (World.drew w1) := (Up.refl w1).drew
      have V1 : Up w1 (World.drew (World.alloc w1 (.cells zr 31))) := ((Up.refl w1).alloc _).drew
      have hne : ((j : Int) == (n : Int)) = false := beq_eq_false_iff_ne.mpr (by omega)
      go_wp2_with (fail)
      go_region_held3 (fun w' => (w'.cell? (p.add (j * 2)) = some (.int .u64 o) ∧ w'.cell? ⟨(p.add (j * 2)).block, (p.add (j * 2)).off + 1, none⟩ = some (.int .i64 f)) ∧ (∀ i, w'.cell? ⟨w.heap.size, i, none⟩ = (#[.int .i64 m.n, .slice (some P) m.n c, .slice (some Q) m.n d, .int .i64 s, .int .i64 a, .int .i64 l, .int .i64 x, .int .i64 y] : Array Value)[i]?))
        (first
          | with_reducible exact hold.out _ V0
          | with_reducible exact hold.out _ V1
          | with_reducible exact hold.out _ UZ
          | with_reducible exact hold.out _ (Up.alloc UZ _)
          | with_reducible exact hold.out _ (Up.set8 UZ (Nat.le_refl _) _ _ _ _ _ _ _ _))
        (first
          | ((with_reducible refine (HC.out (World.drew w1) V0).mono ?_); (rintro e wz ⟨P', Q', c', d', rfl, sz, hz⟩); have UZ := Up.trans V0 hz)
          | ((with_reducible refine (HC.out (World.drew (World.alloc w1 _)) V1).mono ?_); (rintro e wz ⟨P', Q', c', d', rfl, sz, hz⟩); have UZ := Up.trans V1 hz; have NZ := (Blk.new w1 31 zr).drew.up hz; have NZc := NZ.cell; have NZf := NZ.frozen; have NZl := NZ.lt))
      all_goals
        first
          | with_reducible refine gen_exit (Y := fun W2 => Up w1 W2 ∧ Sits W2 K P' Q' c' d' ∧ Blk W2 wz.heap.size 31 #[.int .i64 K.n, .slice (some P') K.n c', .slice (some Q') K.n d', .int .i64 s, .int .i64 a', .int .i64 l, .int .i64 x, .int .i64 y]) ⟨UZ.alloc _, sz.up ((Up.refl wz).alloc _), Blk.new wz _ _⟩ ?_
          | with_reducible refine gen_exit (Y := fun W2 => Up w1 W2 ∧ Sits W2 K P' Q' c' d' ∧ Blk W2 (World.heap w1).size 31 #[.int .i64 K.n, .slice (some P') K.n c', .slice (some Q') K.n d', .int .i64 s, .int .i64 a', .int .i64 l, .int .i64 x, .int .i64 y]) ⟨UZ.set8 (Nat.le_refl _) _ _ _ _ _ _ _ _, sz.far8 NZ _ _ _ _ _ _ _ _, NZ.set8 _ _ _ _ _ _ _ _⟩ ?_
        rintro W2 ⟨UW, s2, N2⟩
        (try clear NZc NZf NZl NZ)
        first
          | generalize wz.heap.size = G at N2 ⊢
          | generalize (World.heap w1).size = G at N2 ⊢
        have U2 := U.trans UW
        have X2 := X.up UW
        have Z2 := Z0.up UW
        have hsit2 := Lib.hid (hsit.out.up UW)
        rename_i hHeld
        clear hHeld Xc Xf Xl Zc Zf Zl hold HC hc1 hc2 UZ hz sz
        have N2c := N2.cell
        have X2c := X2.cell
        have X2f := X2.frozen
        have X2l := X2.lt
        have Z2c := Z2.cell
        have Z2f := Z2.frozen
        have Z2l := Z2.lt
        simp only [zr, roc] at X2c Z2c
        by_cases e : er = 0
        · subst e
          have HD := Lib.hid (show Z = ⟨(don s l (L.drop (j + 1)) K a').m, (don s l (L.drop (j + 1)) K a').a, j + 1 + (don s l (L.drop (j + 1)) K a').n, (don s l (L.drop (j + 1)) K a').e⟩ from by
            have h1 := HZ2.out.1
            rw [HZ2.out.2, don_yes (by rw [HR.out]), HR.out] at h1
            rw [h1]
            simp only [Dn.mk.injEq, true_and, and_true, Nat.zero_add]
            omega)
          clear HZ2
          have hs3 := s2.far8 X2 (.int .i64 K.n) (sl P' K.n c') (sl Q' K.n d') (.int .i64 s) (.int .i64 a') (.int .i64 l) (.int .i64 x) (.int .i64 y)
          go_wp2_with (fail)
          go_step3
          refine ⟨rfl, ⟨j + 1, K, a', P', Q', c', d', _, _, _, _, _, _, _, _, _, _, _, _, _, _, _, _, _, _, _, _, _, _, _, _, _, _, rfl, by omega, hs3, hrg.out.kb hkb.out, HD.out, U2.set8 (Nat.le_refl _) _ _ _ _ _ _ _ _, X2.set8 _ _ _ _ _ _ _ _, Z2.far8 (by omega) _ _ _ _ _ _ _ _⟩, ?_⟩
          (simp [intOf]; omega)
        · have HD := Lib.hid (show Z = ⟨m, a, j, er⟩ from by
            have h1 := HZ2.out.1
            rw [HZ2.out.2, don_no (by rw [HR.out]; exact e), HR.out] at h1
            exact h1)
          have hb : (er != 0) = true := bne_iff_ne.mpr e
          clear e HZ2
          go_wp2_with (fail)
          (try simp only [Exit.jump])
          refine bodyPost_ret (ret_room3 rfl _ _ _ m.n s a l x y (sl P m.n c) (sl Q m.n d) _ _ rfl (Z2.set8 (.int .i64 m.n) (sl P m.n c) (sl Q m.n d) (.int .i64 s) (.int .i64 a) (.int .i64 l) (.int .i64 x) (.int .i64 y)) rfl rfl) rfl ?_
          rw [HD.out]
          exact ⟨P, Q, c, d, rfl, hsit2.out.far8 Z2 _ _ _ _ _ _ _ _, U2.set8 (by omega) _ _ _ _ _ _ _ _⟩
    · obtain rfl : j = n := by omega
      have HD := Lib.hid (show Z = ⟨m, a, j, 0⟩ from by
        have h1 := HZ.out
        rw [show L.drop j = [] from List.drop_eq_nil_of_le (by rw [HN.out]; exact Nat.le_refl _)] at h1
        exact h1)
      clear HZ
      have hne : ((j : Int) == (j : Int)) = true := by simp
      go_wp2_with (fail)
      (try simp only [Exit.jump])
      refine bodyPost_ret (ret_room3 rfl _ _ _ m.n s a l x y (sl P m.n c) (sl Q m.n d) _ _ rfl (Z0.set8 (.int .i64 m.n) (sl P m.n c) (sl Q m.n d) (.int .i64 s) (.int .i64 a) (.int .i64 l) (.int .i64 x) (.int .i64 y)) rfl rfl) rfl ?_
      rw [HD.out]
      exact ⟨P, Q, c, d, rfl, hsit.out.far8 Z0 _ _ _ _ _ _ _ _, U.set8 (by omega) _ _ _ _ _ _ _ _⟩

set_option maxRecDepth 100000 in
set_option maxHeartbeats 4000000 in
/-- All of them. -/
theorem all_any (m : Me) (s a l x y : Int) (P Q : Addr) (c d : Nat) (v : Value) (L : List Ent) (w : World) (hm : Sits w m P Q c d) (hwf : m.wf) (hr : rgt s a l) (hl : l = m.n) (hv : Sl w v L) (hu : ∀ z ∈ L, U64 z.1) :
    Calls Try.prog 9 #[rov m.n (sl P m.n c) (sl Q m.n d) s a l x y, v] w (DnPost w s l x y (don s l L m a)) := by
  have hd := Lib.hid (fun (W : World) (U : Up w W) => done_any m s a l x y P Q c d v L W (hm.up U) hwf hr hl (hv.up U) hu)
  generalize don s l L m a = Z at hd ⊢
  obtain ⟨K, a', n, er⟩ := Z
  obtain ⟨A, n0, c0, rfl⟩ := hv.slice
  unfold DnPost at hd ⊢
  clear hm hwf hr hl hv hu
  go_enter Try.func9, Try.ntmps9
  go_wp2_with (fail)
  refine calls_at (fun V hV => ?_)
  have U0 : Up w V := by rw [hV]; exact ((Up.refl w).alloc _).alloc _
  have Z0 : Blk V (w.heap.size + 1) 31 zr := by rw [hV]; exact Blk.new' _ (by simp) _ _
  clear hV
  refine (hd.out V U0).mono ?_
  rintro e w1 ⟨P', Q', c', d', rfl, s1, h1⟩
  have U1 := U0.trans h1
  have Z1 := Z0.up h1
  clear h1 Z0 U0 hd
  have Z1c := Z1.cell
  have Z1f := Z1.frozen
  have Z1l := Z1.lt
  simp only [zr] at Z1c
  go_wp2_with (fail)
  refine bodyPost_ret (ret_room3 rfl _ _ _ K.n s a' l x y (sl P' K.n c') (sl Q' K.n d') _ _ rfl (Z1.set8 (.int .i64 K.n) (sl P' K.n c') (sl Q' K.n d') (.int .i64 s) (.int .i64 a') (.int .i64 l) (.int .i64 x) (.int .i64 y)) rfl rfl) rfl ?_
  exact ⟨P', Q', c', d', rfl, s1.far8 Z1 _ _ _ _ _ _ _ _, U1.set8 (by omega) _ _ _ _ _ _ _ _⟩
end Go.Proofs.Ytgcpkgogjcgfbaa.E
namespace Go.Proofs.Ytgcpkgogjcgfbaa.E
open Go.Joins Go.ChangeShapes Go.WideShapes Go.ChangeAt Go.RowKit Go.Deep Go.Shelf Go.Maps
set_option linter.unusedVariables false
set_option linter.unusedSimpArgs false

theorem Row.kp {S : List Nat} {w w' : World} {p : Addr} {xs : List Ent} (h : Row w p xs) (k : Kp S w w') (hp : p.block ∉ S) : Row w' p xs := by
  refine ⟨Nat.lt_of_lt_of_le h.1 k.size, fun j x hx => ?_⟩
  have e := h.2 j x hx
  unfold World.cell? at e ⊢
  rw [block_of_add] at e ⊢
  rw [k.block _ h.1 hp]
  exact e
/-- Slices stand in a row. -/
def Slices (us : List Value) : Prop := ∀ u ∈ us, ∃ A n c, u = .slice A n c
theorem Row.apartC {w : World} {p : Addr} {xs : List Ent} {G : Nat} {t : TypeId} {cs : Array Value} (h : Row w p xs) (hx : 0 < xs.length) (hb : Blk w G t cs) (hu : ∀ (i : Nat) (a : Int), cs[i]? ≠ some (.int .u64 a)) : p.block ≠ G := by
  intro e
  have hc := h.2 0 _ (evs_at xs 0 xs[0] (List.getElem?_eq_getElem hx)).1
  unfold Blk at hb
  unfold World.cell? at hc
  rw [block_of_add, e, hb] at hc
  simp only at hc
  split at hc
  · cases hc
  · exact hu _ _ hc
theorem Sl.kpC {w w' : World} {v : Value} {xs : List Ent} {G : Nat} {t : TypeId} {cs : Array Value} (h : Sl w v xs) (hb : Blk w G t cs) (hu : ∀ (i : Nat) (a : Int), cs[i]? ≠ some (.int .u64 a)) (k : Kp [G] w w') : Sl w' v xs := by
  obtain ⟨A, c, e, h1, h2, h3, h4, h5⟩ := h
  refine ⟨A, c, e, h1, h2, h3, h4, fun q => ?_⟩
  obtain ⟨p, e2, hr⟩ := h5 q
  refine ⟨p, e2, hr.kp k (fun hm => ?_)⟩
  exact hr.apartC q hb hu (List.mem_singleton.1 hm)
theorem Slices.no {us : List Value} (h : Slices us) (i : Nat) (a : Int) : us.toArray[i]? ≠ some (.int .u64 a) := fun e => by
  rw [List.getElem?_toArray] at e
  obtain ⟨A, n, c, e2⟩ := h _ (List.mem_of_getElem? e)
  cases e2
theorem roc_no (n : Int) (A B : Option Addr) (n0 n1 c d : Nat) (s a l x y : Int) (i : Nat) (b : Int) : (roc n (.slice A n0 c) (.slice B n1 d) s a l x y)[i]? ≠ some (.int .u64 b) := by
  match i with
  | 0 => simp
  | 1 => simp
  | 2 => simp
  | 3 => simp
  | 4 => simp
  | 5 => simp
  | 6 => simp
  | 7 => simp
  | i + 8 => simp
/-- A block of rows. -/
def Grid (w : World) (G : Nat) (us : List Value) (K : List (List Ent)) : Prop := Blk w G 32 us.toArray ∧ us.length = K.length ∧ Slices us ∧ ∀ (j : Nat) (u : Value) (xs : List Ent), us[j]? = some u → K[j]? = some xs → Sl w u xs
theorem Grid.up {w w' : World} {G : Nat} {us : List Value} {K : List (List Ent)} (h : Grid w G us K) (k : Up w w') : Grid w' G us K :=
  ⟨h.1.up k, h.2.1, h.2.2.1, fun j u xs h1 h2 => (h.2.2.2 j u xs h1 h2).up k⟩
theorem Slices.set {us : List Value} (h : Slices us) (x : Nat) {u : Value} (hu : ∃ A n c, u = .slice A n c) : Slices (us.set x u) := fun y hy => by
  rcases List.mem_or_eq_of_mem_set hy with q | q
  · exact h y q
  · rw [q]; exact hu
/-- A row of the grid is another one now. -/
theorem Grid.put {w : World} {G x : Nat} {us : List Value} {K : List (List Ent)} {u : Value} {xs : List Ent} (h : Grid w G us K) (hu : Sl w u xs) : Grid (w.setCell ⟨G, x, none⟩ u) G (us.set x u) (K.set x xs) := by
  have k : Kp [G] w (w.setCell ⟨G, x, none⟩ u) := (Kp.refl [G] w).set_ (by simp) u
  refine ⟨by simpa using h.1.set_ x u, by simp [h.2.1], h.2.2.1.set x hu.slice, fun j v ys hv hy => ?_⟩
  by_cases hj : j = x
  · subst hj
    have hl : j < us.length := by
      rcases Nat.lt_or_ge j us.length with q | q
      · exact q
      · rw [List.getElem?_eq_none (by simpa using q)] at hv; cases hv
    rw [List.getElem?_set_self hl] at hv
    rw [List.getElem?_set_self (by rw [← h.2.1]; exact hl)] at hy
    cases hv
    cases hy
    exact hu.kpC h.1 h.2.2.1.no k
  · rw [List.getElem?_set_ne (Ne.symm hj)] at hv hy
    exact (h.2.2.2 j v ys hv hy).kpC h.1 h.2.2.1.no k
/-- A block of another kind is written. -/
theorem Grid.kpC {w w' : World} {G g : Nat} {us : List Value} {K : List (List Ent)} {t : TypeId} {cs : Array Value} (h : Grid w G us K) (hG : G ≠ g) (hb : Blk w g t cs) (hu : ∀ (i : Nat) (a : Int), cs[i]? ≠ some (.int .u64 a)) (k : Kp [g] w w') : Grid w' G us K :=
  ⟨h.1.kp k (by simp [hG]), h.2.1, h.2.2.1, fun j u xs h1 h2 => (h.2.2.2 j u xs h1 h2).kpC hb hu k⟩
theorem info_ents : (Try.prog.info? 32).map (fun i => (i.zero, i.size, i.bytes)) = some (some (.slice none 0 0), 1, 24) := by kernel_rfl
theorem made_rows (n : Nat) : madeCells #[.slice none 0 0] n = (List.replicate n (Value.slice none 0 0)).toArray := by
  apply Array.ext
  · simp [size_madeCells]
  · intro i h1 h2
    simp [madeCells, Nat.mod_one]
theorem make_rows (n : Nat) (hn : n ≤ 5864062014805) (w : World) :
    (Instr.makeSlice 38 (.int .i64 (n : Int)) (.int .i64 (n : Int))).run Try.prog w = .ok (.slice (some ⟨w.heap.size, 0, none⟩) n n) (w.alloc (.cells (List.replicate n (Value.slice none 0 0)).toArray 32)) := by
  have := run_make_row' (P := Try.prog) 38 32 (.slice none 0 0) 24 Try.underlying38 info_ents rfl .i64 .i64 n (by omega) (by omega) w
  rw [made_rows] at this
  exact this
theorem Grid.made (w : World) (n : Nat) : Grid (w.alloc (.cells (List.replicate n (Value.slice none 0 0)).toArray 32)) w.heap.size (List.replicate n (Value.slice none 0 0)) (List.replicate n []) :=
  ⟨Blk.new _ _ _, by simp, fun u hu => by rw [List.eq_of_mem_replicate hu]; exact ⟨_, _, _, rfl⟩, fun j u xs h1 h2 => by
    rw [List.eq_of_mem_replicate (List.mem_of_getElem? h1), List.eq_of_mem_replicate (List.mem_of_getElem? h2)]
    exact Sl.nil _⟩
theorem Grid.rw {w : World} {G c : Nat} {us : List Value} {K : List (List Ent)} (h : Grid w G us K) (h1 : K.length ≤ c) (h2 : c ≤ maxLen) : Rw w (.slice (some ⟨G, 0, none⟩) K.length c) K := by
  refine ⟨_, c, rfl, h1, h2, fun q => (by cases q), fun _ => ⟨_, rfl, h.1.lt, fun j xs hj => ?_⟩⟩
  have hl : j < us.length := by
    rw [h.2.1]
    rcases Nat.lt_or_ge j K.length with q | q
    · exact q
    · rw [List.getElem?_eq_none q] at hj; cases hj
  refine ⟨us[j], ?_, h.2.2.2 j _ xs (List.getElem?_eq_getElem hl) hj⟩
  have e := h.1.cell j
  rw [List.getElem?_toArray, List.getElem?_eq_getElem hl] at e
  rw [add_zero']
  exact e
theorem Grid.at_ {w : World} {G x : Nat} {us : List Value} {K : List (List Ent)} (h : Grid w G us K) (hx : x < K.length) : ∃ u, us[x]? = some u ∧ w.cell? ⟨G, x, none⟩ = some u ∧ Sl w u (K.getD x []) := by
  have hl : x < us.length := by rw [h.2.1]; exact hx
  refine ⟨us[x], List.getElem?_eq_getElem hl, ?_, ?_⟩
  · have e := h.1.cell x
    rw [List.getElem?_toArray, List.getElem?_eq_getElem hl] at e
    exact e
  · have := h.2.2.2 x us[x] K[x] (List.getElem?_eq_getElem hl) (List.getElem?_eq_getElem hx)
    simpa [List.getD, List.getElem?_eq_getElem hx] using this
/-- The rows, the first x of which are there. -/
def prt (L : List (List Ent)) (x : Nat) : List (List Ent) := L.take x ++ List.replicate (L.length - x) []
theorem prt_0 (L : List (List Ent)) : prt L 0 = List.replicate L.length [] := by simp [prt]
theorem prt_all (L : List (List Ent)) : prt L L.length = L := by simp [prt]
theorem take_one {α : Type} {xs : List α} {x : Nat} (d : α) (h : x < xs.length) : xs.take (x + 1) = xs.take x ++ [xs.getD x d] := by
  rw [List.take_succ_eq_append_getElem h]
  simp [List.getD, List.getElem?_eq_getElem h]
theorem prt_step (L : List (List Ent)) {x : Nat} (k : x < L.length) : prt L (x + 1) = (prt L x).set x (L.getD x []) := by
  unfold prt
  have hl : (L.take x).length = x := by simp; omega
  rw [take_one [] k, List.append_assoc, List.set_append_right _ _ (by omega), hl, Nat.sub_self]
  obtain ⟨d, hd⟩ : ∃ d, L.length - x = d + 1 := ⟨L.length - x - 1, by omega⟩
  rw [hd, show L.length - (x + 1) = d from by omega, List.replicate_succ]
  rfl
def AnRel (w : World) (G n : Nat) (L : List (List Ent)) (i : Value) (wr : World) : Prop :=
  ∃ (x : Nat) (us : List Value), x ≤ n ∧ i = .int .i64 x ∧ Grid wr G us (prt L x) ∧ Up w wr
set_option maxRecDepth 100000 in
set_option maxHeartbeats 4000000 in
theorem anew_any (v : Value) (L : List (List Ent)) (w : World) (hL : Rw w v L) (hN : L.length ≤ 5864062014805) (hb : ∀ r ∈ L, r.length ≤ 8796093022208) :
    Calls Try.prog 26 #[v] w fun e w' => ∃ us, e = .returned (.slice (some ⟨w.heap.size, 0, none⟩) L.length L.length) ∧ Grid w' w.heap.size us L ∧ Up w w' := by
  have HL := Lib.hid hL
  have HB := Lib.hid hb
  have hmk := make_rows L.length hN
  obtain ⟨A, c, rfl, -⟩ := hL
  generalize hn : L.length = n at *
  have HN := Lib.hid hn
  clear hb hn
  go_enter Try.func26, Try.ntmps26
  go_wp2
  have hG := Grid.made w n
  have U0 : Up w (w.alloc (.cells (List.replicate n (Value.slice none 0 0)).toArray 32)) := (Up.refl w).alloc _
  generalize hGn : w.heap.size = G at *
  go_loopw [11] (fun i wr => AnRel w G n L i wr) (fun i _ => n - (intOf i).toNat)
  case atStart => exact ⟨0, _, Nat.zero_le _, rfl, by rw [prt_0, HN.out]; exact hG, U0⟩
  case round =>
    rename World => wb
    obtain ⟨x, us, hxn, rfl, hGr, hU⟩ := hrel
    by_cases hlt : x < n
    · have hlx : x < L.length := by rw [HN.out]; exact hlt
      have hat := (HL.out.up hU).at_ hlt
      obtain ⟨p, u, hp, hcu, hsu⟩ := hat
      subst hp
      have hcl := Lib.hid (fun (W : World) (k : Up wb W) => clone_any u (L.getD x []) W (hsu.up k) (HB.out _ (getD_mem _ hlx)))
      have hst := Lib.hid (prt_step L hlx)
      have HG := Lib.hid hGr
      obtain ⟨Au, nu, cu, hu⟩ := hsu.slice
      subst hu
      clear hsu hGr
      go_wp2_with (fail)
      refine (hcl.out _ (Up.refl _)).mono ?_
      rintro e w1 ⟨v1, rfl, hs1, -, h1⟩
      obtain ⟨A1, n1, c1, hv1⟩ := hs1.slice
      subst hv1
      have G1 := Lib.hid ((HG.out.up h1).put (x := x) hs1)
      have hB := (HG.out.up h1).1
      have hBc := hB.cell
      have hBf := hB.frozen
      have hBl := hB.lt
      have hlu : x < us.length := by rw [HG.out.2.1]; simp [prt]; omega
      have U1 := Lib.hid (hU.trans h1)
      have hwG : w.heap.size ≤ G := Nat.le_of_eq hGn
      clear hcl hcu h1 HG hU hs1
      go_wp2
      refine ⟨⟨x + 1, _, by omega, by go_num, by rw [hst.out]; exact G1.out, U1.out.setCell hwG _⟩, by simp [intOf]; omega⟩
    · obtain rfl : x = n := by omega
      go_wp2
      go_ret
      refine ⟨us, by rw [hGn]; rfl, ?_, hU⟩
      rw [hGn]
      have e := prt_all L
      rw [HN.out] at e
      rw [e] at hGr
      exact hGr
end Go.Proofs.Ytgcpkgogjcgfbaa.E
namespace Go.Proofs.Ytgcpkgogjcgfbaa.E
open Go.Joins Go.ChangeShapes Go.WideShapes Go.ChangeAt Go.RowKit Go.Deep Go.Shelf Go.Maps
set_option linter.unusedVariables false
set_option linter.unusedSimpArgs false

theorem run_none (p : Addr) (B : Option Addr) (n cap c : Nat) (hc : n ≤ cap) (ty : TypeId) (w : World) : (Builtin.append_ #[32, 32] ty #[.slice (some p) n cap, .slice B 0 c]).run Try.prog w = .ok (.slice (some p) n cap) w := by
  obtain ⟨i0, hi, hz0, hz1, hz2⟩ := info3
  cases B <;> simp [Builtin.append_, run_underlying Try.underlying32, sizeOf, typeInfo, hi, Builtin.lenOf, Builtin.firstCells, loadCells, loadCellsFrom, storeCells, hc]
theorem grown_self (w : World) (r : Option Nat) : w.grownBy w r := ⟨rfl, rfl, rfl, Nat.le_refl _, fun _ _ _ => rfl⟩
theorem run_any {w : World} (ty : TypeId) (n₀ : Nat) (v : Value) (xs : List Ent) (hx : Lo w n₀ v xs) (u : Value) (ys : List Ent) (hy : Sl w u ys) (hb : xs.length + ys.length ≤ 8796093022208) (hbase : n₀ ≤ w.heap.size) :
    ∃ v' w', (Builtin.append_ #[32, 32] ty #[v, u]).run Try.prog w = .ok v' w' ∧ Lo w' n₀ v' (xs ++ ys) ∧ w.grownBy w' v.ownBlock := by
  obtain ⟨B, c, rfl, h1, h2, h3, h4, h5⟩ := hy
  by_cases hys : ys = []
  · subst hys
    rw [List.append_nil]
    have hx0 := hx
    obtain ⟨hl, hc⟩ := hx
    rcases hc with ⟨rfl, h0⟩ | ⟨g, cap, cur, rfl, q1, q2, q3, q4⟩
    · exact ⟨_, w, run_nothing none B c ty w, hx0, grown_self _ _⟩
    · exact ⟨_, w, run_none ⟨g, 0, none⟩ B xs.length cap c q3 ty w, hx0, grown_self _ _⟩
  · have hp : 0 < ys.length := List.length_pos_iff.2 hys
    obtain ⟨p, rfl, hr⟩ := h5 hp
    obtain ⟨g, cap, w', r1, r2, r3, _⟩ := run_own ty n₀ v xs hx p ys ys.length c rfl hr hp hb hbase
    exact ⟨_, w', r1, r2, r3⟩
theorem step_any {W0 w : World} {ops : Array Oper} {o : Oper} {a : Act} {K : Act → World → Prop} {Q : Exit → Act → World → Prop} {F : Prop} (hgd : o.guard = none) (s x : Operand) (ho : o.op = .call { callee := .builtin .append, args := #[s, x], argTypes := #[32, 32] })
    (v : Value) (xs : List Ent) (hs : a.eval s = v) (hx : Lo w W0.heap.size v xs) (u : Value) (ys : List Ent) (hu : a.eval x = u) (hy : Sl w u ys) (hb : xs.length + ys.length ≤ 8796093022208) (hU : Up W0 w)
    (h : ∀ v' w', Lo w' W0.heap.size v' (xs ++ ys) → Up W0 w' → (∀ g t cs, Blk w g t cs → 46 ≠ t → Blk w' g t cs) → K (a.put o.dst v') w') : if Region.wanted o (yielded ops a.tmps) = true then Oper.wp Try.prog o a w K Q else F := by
  obtain ⟨v', w', hr, h1, h2⟩ := run_any o.type W0.heap.size v xs hx u ys hy hb hU.size
  exact step_app hgd s x ho hs hu hr (h v' w' h1 (Up.own hU hx h2) (fun g t cs hg hne => hg.grown h2 (own_row_ne hx hg hne)))
theorem Lo.alloc {w : World} {n₀ : Nat} {v : Value} {xs : List Ent} (h : Lo w n₀ v xs) (o : Obj) : Lo (w.alloc o) n₀ v xs := World.ownsRow.alloc h o
theorem blk_two {w : World} {t : TypeId} {cs ds : Array Value} {u : TypeId} : Blk ((w.alloc (.cells cs t)).alloc (.cells ds u)).drew (w.heap.size + 1) u ds := (Blk.new' (w.alloc (.cells cs t)) (by simp) u ds).drew
end Go.Proofs.Ytgcpkgogjcgfbaa.E
namespace Go.Proofs.Ytgcpkgogjcgfbaa
theorem Row.apartC {w : World} {p : Addr} {xs : List Int} {G : Nat} {t : TypeId} {cs : Array Value} (h : Row w p xs) (hx : 0 < xs.length) (hb : Blk w G t cs) (hu : ∀ (i : Nat) (a : Int), cs[i]? ≠ some (.int .u64 a)) : p.block ≠ G := by
  intro e
  have hc := h.2 0 xs[0] (List.getElem?_eq_getElem hx)
  unfold Blk at hb
  unfold World.cell? at hc
  rw [block_of_add, e, hb] at hc
  simp only at hc
  split at hc
  · cases hc
  · exact hu _ _ hc
/-- A block that isn't of words is written. -/
theorem Sits.kpC {w w' : World} {m : Me} {p q : Addr} {c d G : Nat} {t : TypeId} {cs : Array Value} (h : Sits w m p q c d) (hb : Blk w G t cs) (hu : ∀ (i : Nat) (a : Int), cs[i]? ≠ some (.int .u64 a)) (k : Kp [G] w w') : Sits w' m p q c d := by
  obtain ⟨h1, h2, h3, h4, h5, h6, h7⟩ := h
  have h16 := h1
  obtain ⟨a1, a2, a3, a4⟩ := h16
  exact ⟨h1, h2, h3, h4, h5, h6.kp k (fun r => h6.apartC (by omega) hb hu (List.mem_singleton.1 r)), h7.kp k (fun r => h7.apartC (by omega) hb hu (List.mem_singleton.1 r))⟩
end Go.Proofs.Ytgcpkgogjcgfbaa
namespace Go.Proofs.Ytgcpkgogjcgfbaa.E
open Go.Joins Go.ChangeShapes Go.WideShapes Go.ChangeAt Go.RowKit Go.Deep Go.Shelf Go.Maps
set_option linter.unusedVariables false
set_option linter.unusedSimpArgs false

theorem fdn_fst (L : List (List Ent)) : fdn L 0 = fst_ L := by simp [fdn, fst_]
theorem fst_le (L : List (List Ent)) : fst_ L ≤ L.length := List.findIdx_le_length
theorem fst_ne {L : List (List Ent)} (h : fst_ L < L.length) : L.getD (fst_ L) [] ≠ [] := by
  have := List.findIdx_getElem (p := fun (r : List Ent) => !r.isEmpty) (xs := L) (w := h)
  rw [show L.getD (fst_ L) [] = L[fst_ L] from by simp [List.getD, List.getElem?_eq_getElem h]]
  intro e
  unfold fst_ at e
  rw [e] at this
  simp at this
theorem fdo_yes {L : List (List Ent)} (h : fst_ L < L.length) : fdo L 0 = .tuple #[.int .i64 (fst_ L : Nat), .bool true] := by
  unfold fdo
  rw [fdn_fst, if_pos h, decide_eq_true h]
theorem fdo_no {L : List (List Ent)} (h : ¬ fst_ L < L.length) : fdo L 0 = .tuple #[.int .i64 0, .bool false] := by
  unfold fdo
  rw [fdn_fst, if_neg h, decide_eq_false h]
theorem set_emp {L : List (List Ent)} (i : Nat) (h : i ≤ fst_ L) : (L.set (fst_ L) []).getD i [] = [] := by
  by_cases e : i = fst_ L
  · rw [← e]
    by_cases hl : i < L.length
    · rw [List.getD, List.getElem?_set_self hl]; rfl
    · rw [List.getD, List.getElem?_eq_none (by rw [List.length_set]; omega)]; rfl
  · have h2 := fdn_empty (L := L) (i := 0) (j := i) (Nat.zero_le _) (by rw [fdn_fst]; omega)
    rw [show (L.set (fst_ L) []).getD i [] = L.getD i [] from by simp [List.getD, List.getElem?_set_ne (Ne.symm e)]]
    exact h2
/-- 'l[q:]'. -/
def loA (p : Addr) (c q : Nat) : Addr := if c = q then p else p.add (q * 2)
theorem run_lo (p : Addr) (n c q : Nat) (hn : q ≤ n) (hc : n ≤ c) (w : World) :
    (Instr.sliceAt 32 (.slice (some p) n c) (some (.int .i64 (q : Int))) none none).run Try.prog w = .ok (.slice (some (loA p c q)) (n - q) (c - q)) w ∧ (Instr.slice 32 (.slice (some p) n c) (some (.int .i64 (q : Int))) none none).run Try.prog w = .ok (.slice (some (loA p c q)) (n - q) (c - q)) w := by
  obtain ⟨i0, hi0, hz0, hz1, hz2⟩ := info3
  have hel : Try.prog.elem 32 = 46 := by kernel_rfl
  have hu : Try.prog.underlying 32 = some (.slice (Try.prog.elem 32)) := by rw [hel]; exact Try.underlying32
  rw [run_sliceAt_slice (h := hu), and_self, run_slice_l (ht := hu) (h0 := by omega) (h1 := by omega), hel]
  unfold loA
  by_cases h : c = q <;> simp [sizeOf, typeInfo, hi0, hz1, sliced, h]
theorem evs_drop : ∀ (xs : List Ent) (q : Nat), evs (xs.drop q) = (evs xs).drop (q * 2)
  | xs, 0 => by simp
  | [], q + 1 => by simp [evs]
  | x :: r, q + 1 => by
    rw [show (q + 1) * 2 = q * 2 + 1 + 1 from by omega]
    simp [evs, evs_drop r q]
theorem lo_sl {w : World} {p : Addr} {n c q : Nat} {xs : List Ent} (hr : Row w p xs) (hl : xs.length = n) (hn : q ≤ n) (hc : n ≤ c) (hm : c ≤ maxLen) : Sl w (.slice (some (loA p c q)) (n - q) (c - q)) (xs.drop q) := by
  have hl2 : (xs.drop q).length = n - q := by simp [hl]
  refine ⟨some (loA p c q), c - q, by rw [hl2], by omega, by omega, fun q => (by cases q), rfl, fun hp => ⟨_, rfl, ?_⟩⟩
  have hc1 : ¬ c = q := by omega
  rw [show loA p c q = p.add (q * 2) from if_neg hc1]
  refine ⟨by rw [block_of_add]; exact hr.1, fun j v hv => ?_⟩
  rw [add_add]
  refine hr.2 (q * 2 + j) v ?_
  rw [evs_drop, List.getElem?_drop] at hv
  exact hv
theorem gen_wpl {P : Program} {ops : Array Oper} {Q : Exit → Act → World → Prop} {rest : List Oper} {a : Act} {Y : World → Prop} {X : World} (y : Y X) (h : ∀ W, Y W → wpList P ops Q rest a W) : wpList P ops Q rest a X := h X y
theorem set_mem {L : List (List Ent)} {j : Nat} {r : List Ent} {p : Ent → Prop} (h : ∀ r ∈ L, ∀ z ∈ r, p z) (hr : ∀ z ∈ r, p z) : ∀ x ∈ L.set j r, ∀ z ∈ x, p z := fun x hx => by
  rcases List.mem_or_eq_of_mem_set hx with q | q
  · exact h x q
  · rw [q]; exact hr
theorem Kp.all8 {g : Nat} (w : World) (u0 u1 u2 u3 u4 u5 u6 u7 : Value) : Kp [g] w ((((((((w.setCell ⟨g, 0, none⟩ u0).setCell ⟨g, 1, none⟩ u1).setCell ⟨g, 2, none⟩ u2).setCell ⟨g, 3, none⟩ u3).setCell ⟨g, 4, none⟩ u4).setCell ⟨g, 5, none⟩ u5).setCell ⟨g, 6, none⟩ u6).setCell ⟨g, 7, none⟩ u7) :=
  (((((((((Kp.refl [g] w).set_ (by simp) _).set_ (by simp) _).set_ (by simp) _).set_ (by simp) _).set_ (by simp) _).set_ (by simp) _).set_ (by simp) _).set_ (by simp) _)

/-- A room, logs, an error. -/
def LgPost (w : World) (s l x y : Int) (z : Lg) (e : Ending) (w' : World) : Prop :=
  ∃ (P' Q' : Addr) (c' d' : Nat) (v : Value), e = .returned (.tuple #[rov z.m.n (sl P' z.m.n c') (sl Q' z.m.n d') s z.a l x y, v, .int .i64 z.e]) ∧ Sits w' z.m P' Q' c' d' ∧ Rw w' v z.L ∧ Up w w'
/-- What holds at the label. -/
def AtL (Z : Lg) (s l x y : Int) (n G : Nat) (v0 v1 : Value) (w : World) (a' : Act) (w' : World) : Prop :=
  ∃ (pl : Nat) (L : List (List Ent)) (us : List Value) (m : Me) (a : Int) (P Q : Addr) (c d : Nat) (u3 u9 u10 u11 u12 u13 u14 u15 u16 u17 u18 u19 u20 u21 u22 u23 u24 u25 u26 u27 u28 u29 u30 u31 u32 u33 u34 u35 u36 u37 u38 u39 u40 u41 u42 u43 u44 u45 u46 : Value),
    a' = { tmps := #[v0, v1, bx w.heap.size, u3, bx (w.heap.size + 1), .slice none 0 0, .int .i64 0, .slice (some ⟨G, 0, none⟩) n n, .int .i64 pl, u9, u10, u11, u12, u13, u14, u15, u16, u17, u18, u19, u20, u21, u22, u23, u24, u25, u26, u27, u28, u29, u30, u31, u32, u33, u34, u35, u36, u37, u38, u39, u40, u41, u42, u43, u44, u45, u46], defers := [] }
      ∧ pl < n ∧ (∀ i, i ≤ pl → L.getD i [] = []) ∧ L.length = n ∧ (∀ r ∈ L, ∀ z ∈ r, U64 z.1) ∧ Sits w' m P Q c d ∧ Rg s l m a ∧ lgs s l L m a = Z ∧ Up w w'
      ∧ Blk w' w.heap.size 31 (roc m.n (sl P m.n c) (sl Q m.n d) s a l x y) ∧ Blk w' (w.heap.size + 1) 31 zr ∧ Grid w' G us L

set_option maxRecDepth 100000 in
set_option maxHeartbeats 1000000 in
/-- Entries of logs, log by log. -/
theorem logs_any (m : Me) (s a l x y : Int) (P Q : Addr) (c d : Nat) (v : Value) (L : List (List Ent)) (w : World) (hm : Sits w m P Q c d) (hwf : m.wf) (hr : rgt s a l) (hl : l = m.n) (hv : Rw w v L) (hN : L.length ≤ 1000) (hb : ∀ r ∈ L, r.length ≤ 8796093022208) (hu : ∀ r ∈ L, ∀ z ∈ r, U64 z.1) :
    Calls Try.prog 10 #[rov m.n (sl P m.n c) (sl Q m.n d) s a l x y, v] w (LgPost w s l x y (lgs s l L m a)) := by
  obtain ⟨Z, hZ⟩ : ∃ Z, lgs s l L m a = Z := ⟨_, rfl⟩
  rw [hZ]
  have han := Lib.hid (fun (W : World) (U : Up w W) => anew_any v L W (hv.up U) (by omega) hb)
  generalize hn : L.length = n at *
  have HLn := Lib.hid hn
  have hmx : n ≤ maxLen := by unfold maxLen; omega
  have HU := Lib.hid hu
  have hsit0 := Lib.hid hm
  have hrg := Lib.hid (show Rg s l m a from ⟨hwf, hr, hl⟩)
  have HZ := Lib.hid hZ
  clear hm hwf hr hl hZ hv hb hu hn
  go_enter Try.func10, Try.ntmps10
  go_wp2
  obtain ⟨G, hGw⟩ : ∃ G, G = w.heap.size + 1 + 1 := ⟨_, rfl⟩
  have HGw := Lib.hid hGw
  refine wp_scope_jumps 0 (AtL Z s l x y n G (rov m.n (sl P m.n c) (sl Q m.n d) s a l x y) v w) (fun a' _ => n - (intOf (a'.tmps.getD 8 undef)).toNat) rfl ?_ ?_
  · go_wp2_with (fail)
    refine calls_at (fun V hV => ?_)
    have U0 : Up w V := by rw [hV]; exact ((Up.refl w).alloc _).alloc _
    have X0 : Blk V w.heap.size 31 (roc m.n (sl P m.n c) (sl Q m.n d) s a l x y) := by rw [hV]; exact (Blk.new' w rfl _ _).alloc _
    have Zb : Blk V (w.heap.size + 1) 31 zr := by rw [hV]; exact Blk.new' _ (by simp) _ _
    have hVs : V.heap.size = G := by rw [hV, hGw]; simp
    clear hV
    have ha2 := han.out V U0
    rw [hVs] at ha2
    refine ha2.mono ?_
    rintro e w1 ⟨us, rfl, hg1, h1⟩
    have U := U0.trans h1
    have X := X0.up h1
    have Z0 := Zb.up h1
    have HG := Lib.hid hg1
    have hsit := Lib.hid (hsit0.out.up U)
    clear ha2 han U0 X0 Zb h1 hg1 hsit0 hVs hGw
    go_wp2_with (fail)
    go_step3
    have hrw := HG.out.rw (c := n) (by rw [HLn.out]; exact Nat.le_refl _) hmx
    rw [HLn.out] at hrw
    have hnx := Lib.hid (next_any _ L w1 hrw)
    clear hrw
    by_cases hlt : fst_ L < n
    · have hlx : fst_ L < L.length := by rw [HLn.out]; exact hlt
      rw [fdo_yes hlx] at hnx
      have hne := fst_ne hlx
      have hyu := HU.out _ (getD_mem [] hlx)
      have HOK := Lib.hid (lgs_ok (s := s) (l := l) L m a hlx)
      have HER := Lib.hid (lgs_er (s := s) (l := l) L m a hlx)
      have HEM := Lib.hid (fun (i : Nat) (h : i ≤ fst_ L) => set_emp (L := L) i h)
      skip
      generalize fst_ L = j at hnx hlt hlx hne hyu HOK HER HEM 
      go_wp2_with (fail)
      refine hnx.out.mono ?_
      rintro e w2 ⟨rfl, h2⟩
      have hUW : Up w1 (World.drew w2) := h2.drew
      have U2 := U.trans hUW
      have X2 := X.up hUW
      have Z2 := Z0.up hUW
      have G2 := Lib.hid (HG.out.up hUW)
      have sit2 := Lib.hid (hsit.out.up hUW)
      clear h2 hUW hnx U X Z0 HG hsit
      obtain ⟨u, hju, hcu, hsu⟩ := G2.out.at_ (x := j) hlx
      obtain ⟨A, cap, hu1, hu2, hu3, hu4, hu5⟩ := hsu
      have hpos : 0 < (L.getD j []).length := List.length_pos_iff.2 hne
      obtain ⟨p, hp, hrow⟩ := hu5.2 hpos
      subst hp hu1
      have hdn := Lib.hid (done_any m s a l x y P Q c d (.slice (some p) (L.getD j []).length cap) (L.getD j []) (World.drew w2) sit2.out hrg.out.wf hrg.out.rg hrg.out.hl ⟨_, _, rfl, hu2, hu3, hu4, hu5⟩ hyu)
      have hrowH := Lib.hid hrow
      have hcut := fun w => (run_lo p (L.getD j []).length cap (don s l (L.getD j []) m a).n (don_le _ _ _) hu2 w).1
      have hcut2 := fun w => (run_lo p (L.getD j []).length cap (don s l (L.getD j []) m a).n (don_le _ _ _) hu2 w).2
      have hlosl := Lib.hid (fun (w : World) (h : Row w p (L.getD j [])) => lo_sl (q := (don s l (L.getD j []) m a).n) h rfl (don_le _ _ _) hu2 hu3)
      have hkb := Lib.hid (don_kb (s := s) (l := l) (L.getD j []) m a sit2.out.1 hrg.out.wf hrg.out.rg hrg.out.hl)
      have hlen := Lib.hid (don_len (s := s) (l := l) (L.getD j []) m a)
      have HR := Lib.hid (show L.getD j [] = L.getD j [] from rfl)
      generalize hD : don s l (L.getD j []) m a = D at hdn hcut hcut2 hlosl hkb hlen HOK HER
      clear hD
      obtain ⟨K, a', q, er⟩ := D
      generalize hrr : L.getD j [] = r at hdn hcut hcut2 hlosl hlen hrowH HER hu2 hne hpos hyu hcu hju
      clear hrr HR hu5 hrow hyu hne
      have HK0 : ∃ k, r.length = k := ⟨_, rfl⟩
      obtain ⟨k, hk⟩ := HK0
      rw [hk] at hdn hcut hcut2 hlosl hlen hcu hu2 hju hpos
      have HK := Lib.hid hk
      clear hk
      unfold DnPost at hdn
      simp only [] at hdn hcut hcut2 hlosl hkb hlen HOK HER
      have X2c := X2.cell
      have X2l := X2.lt
      simp only [roc] at X2c
      have hj0 : (0 : Int) ≤ (j : Int) := by omega
      have hj1 : (j : Int) < (n : Int) := by omega
      have gX : ¬ G = w.heap.size := by have := HGw.out; omega
      have gX2 : ¬ w.heap.size = G := fun e => gX e.symm
      have B2 := G2.out.1
      have hcell := Lib.hid (show ∀ V : World, Blk V G 32 us.toArray → V.cell? ⟨G, j, none⟩ = some (.slice (some p) k cap) from fun V hV => by rw [hV.cell j, List.getElem?_toArray]; exact hju)
      have HJU := Lib.hid hju
      clear hju hu4 hu3
      go_wp2_with (fail)
      go_region_with (go_at_call 25; ((with_reducible refine hdn.out.mono ?_); (rintro e w3 ⟨P', Q', c', d', rfl, s3, h3⟩); have BZ := B2.up h3; have XZ := X2.up h3; have XZc := XZ.cell; have XZf := XZ.frozen; have XZl := XZ.lt))
      all_goals
        clear XZc XZf XZl X2c X2l hcu hdn hcell
        have gZ : ¬ G = w.heap.size + 1 := by have := HGw.out; omega
        have gZ2 : ¬ w.heap.size + 1 = G := fun e => gZ e.symm
        refine gen_exit (Y := fun W4 => (Sits W4 K P' Q' c' d' ∧ Up w W4) ∧ (Blk W4 w.heap.size 31 (roc K.n (sl P' K.n c') (sl Q' K.n d') s a' l x y) ∧ Blk W4 (w.heap.size + 1) 31 zr) ∧ Grid W4 G us L ∧ Row W4 p r)
          ⟨⟨s3.far8 XZ _ _ _ _ _ _ _ _, (U2.trans h3).set8 (Nat.le_refl _) _ _ _ _ _ _ _ _⟩, ⟨XZ.set8 _ _ _ _ _ _ _ _, (Z2.up h3).far8 (by simp <;> omega) _ _ _ _ _ _ _ _⟩, (G2.out.up h3).kpC gX XZ (roc_no _ _ _ _ _ _ _ _ _ _ _ _) (Kp.all8 _ _ _ _ _ _ _ _ _), (hrowH.out.up h3).kp (Kp.all8 _ _ _ _ _ _ _ _ _) (fun hm => (hrowH.out.up h3).apartC (by rw [HK.out]; exact hpos) XZ (roc_no _ _ _ _ _ _ _ _ _ _ _ _) (List.mem_singleton.1 hm))⟩ ?_
        rintro W4 ⟨⟨s4, U4⟩, ⟨X4, Z4⟩, G4, R4⟩
        clear s3 U2 X2 Z2 G2 sit2 hrowH h3 BZ XZ B2
        have hcu4 : W4.cell? ⟨G, j, none⟩ = some (.slice (some p) k cap) := by rw [G4.1.cell j, List.getElem?_toArray]; exact HJU.out
        have hS := Lib.hid (hlosl.out W4 R4)
        have G4f := G4.1.frozen
        have G4l := G4.1.lt
        have X4c := X4.cell
        have X4l := X4.lt
        have Z4c := Z4.cell
        have Z4f := Z4.frozen
        have Z4l := Z4.lt
        simp only [zr, roc] at X4c Z4c
        have G4H := Lib.hid G4
        have s4H := Lib.hid s4
        have U4H := Lib.hid U4
        have X4H := Lib.hid X4
        have Z4H := Lib.hid Z4
        clear hlosl R4 G4 s4 U4 X4 Z4
        by_cases e : er = 0
        · subst e
          have HOK2 := Lib.hid ((HOK.out rfl).symm.trans HZ.out)
          have HQ := Lib.hid (show r.drop q = [] from List.drop_eq_nil_of_le (by rw [HK.out, hlen.out rfl]; exact Nat.le_refl _))
          clear HER HOK hlen
          go_wp2_with (fail)
          go_step3
          have k5 : Kp [G] W4 (W4.setCell ⟨G, j, none⟩ (.slice (some (loA p cap q)) (k - q) (cap - q))) := (Kp.refl [G] W4).set_ (by simp) _
          have hG5 := G4H.out.put (x := j) hS.out
          rw [HQ.out] at hG5
          refine ⟨rfl, ⟨j, L.set j [], _, K, a', P', Q', c', d', _, _, _, _, _, _, _, _, _, _, _, _, _, _, _, _, _, _, _, _, _, _, _, _, _, _, _, _, _, _, _, _, _, _, _, _, _, _, _, rfl, hlt, HEM.out, by rw [List.length_set]; exact HLn.out, set_mem HU.out (fun z hz => (by cases hz)), s4H.out.kpC G4H.out.1 G4H.out.2.2.1.no k5, hrg.out.kb hkb.out, HOK2.out, U4H.out.setCell (by simp only []; have := HGw.out; omega) _, X4H.out.far gX2 _, Z4H.out.far gZ2 _, hG5⟩⟩
          skip
        · have HER2 := Lib.hid ((HER.out e).symm.trans HZ.out)
          have hb : (er != 0) = true := bne_iff_ne.mpr e
          clear HER HOK hlen e
          go_wp2_with (fail)
          (try simp only [Exit.jump])
          have k5 : Kp [G] W4 (W4.setCell ⟨G, j, none⟩ (.slice (some (loA p cap q)) (k - q) (cap - q))) := (Kp.refl [G] W4).set_ (by simp) _
          have Z5 := Z4H.out.far (p := ⟨G, j, none⟩) gZ2 (.slice (some (loA p cap q)) (k - q) (cap - q))
          refine bodyPost_ret (ret_room3 rfl _ _ _ K.n s a' l x y (sl P' K.n c') (sl Q' K.n d') (.slice (some ⟨G, 0, none⟩) n n) _ rfl (Z5.set8 (.int .i64 K.n) (sl P' K.n c') (sl Q' K.n d') (.int .i64 s) (.int .i64 a') (.int .i64 l) (.int .i64 x) (.int .i64 y)) rfl rfl) rfl ?_
          rw [← HER2.out]
          have G6 := (G4H.out.put (x := j) hS.out).kpC gZ Z5 (roc_no _ _ _ _ _ _ _ _ _ _ _ _) (Kp.all8 _ (.int .i64 K.n) (sl P' K.n c') (sl Q' K.n d') (.int .i64 s) (.int .i64 a') (.int .i64 l) (.int .i64 x) (.int .i64 y))
          have R6 := G6.rw (c := n) (by rw [List.length_set, HLn.out]; exact Nat.le_refl _) hmx
          rw [List.length_set, HLn.out] at R6
          exact ⟨P', Q', c', d', _, rfl, (s4H.out.kpC G4H.out.1 G4H.out.2.2.1.no k5).far8 Z5 _ _ _ _ _ _ _ _, R6, (U4H.out.setCell (by simp only []; have := HGw.out; omega) _).set8 (by omega) _ _ _ _ _ _ _ _⟩
    · have HLe : Hid (lgs s l L m a = ⟨m, a, L, 0⟩) := Lib.hid (lgs_end L m a (by have := fst_le L; have := HLn.out; omega))
      rw [fdo_no (by rw [HLn.out]; exact hlt)] at hnx
      go_wp2_with (fail)
      refine hnx.out.mono ?_
      rintro e w2 ⟨rfl, h2⟩
      have U2 := U.trans h2
      have X2 := X.up h2
      have Z2 := Z0.up h2
      have G2 := Lib.hid (HG.out.up h2)
      have sit2 := Lib.hid (hsit.out.up h2)
      clear h2 hnx U X Z0 HG hsit
      have X2c := X2.cell
      have X2f := X2.frozen
      have X2l := X2.lt
      have Z2c := Z2.cell
      have Z2f := Z2.frozen
      have Z2l := Z2.lt
      simp only [zr, roc] at X2c Z2c
      go_wp2_with (fail)
      (try simp only [Exit.jump])
      refine bodyPost_ret (ret_room3 rfl _ _ _ m.n s a l x y (sl P m.n c) (sl Q m.n d) (.slice (some ⟨G, 0, none⟩) n n) _ rfl (Z2.set8 (.int .i64 m.n) (sl P m.n c) (sl Q m.n d) (.int .i64 s) (.int .i64 a) (.int .i64 l) (.int .i64 x) (.int .i64 y)) rfl rfl) rfl ?_
      rw [← HZ.out, HLe.out]
      have gZ : G ≠ w.heap.size + 1 := by have := HGw.out; omega
      have G3 := G2.out.kpC gZ Z2 (roc_no _ _ _ _ _ _ _ _ _ _ _ _) (Kp.all8 _ (.int .i64 m.n) (sl P m.n c) (sl Q m.n d) (.int .i64 s) (.int .i64 a) (.int .i64 l) (.int .i64 x) (.int .i64 y))
      have R3 := G3.rw (c := n) (by rw [HLn.out]; exact Nat.le_refl _) hmx
      rw [HLn.out] at R3
      exact ⟨P, Q, c, d, _, rfl, sit2.out.far8 Z2 _ _ _ _ _ _ _ _, R3, U2.set8 (by omega) _ _ _ _ _ _ _ _⟩
  · clear HZ hsit0 hrg han HLn HU hGw
    rintro a0 w1 ⟨pl, L, us, m, a, P, Q, c, d, u3, u9, u10, u11, u12, u13, u14, u15, u16, u17, u18, u19, u20, u21, u22, u23, u24, u25, u26, u27, u28, u29, u30, u31, u32, u33, u34, u35, u36, u37, u38, u39, u40, u41, u42, u43, u44, u45, u46, rfl, hpl, HPL, HLn, HU, hsit, hrg, HZ, U, X, Z0, HG⟩
    replace HPL := Lib.hid HPL
    replace HLn := Lib.hid HLn
    replace HU := Lib.hid HU
    replace hsit := Lib.hid hsit
    replace hrg := Lib.hid hrg
    replace HZ := Lib.hid HZ
    replace HG := Lib.hid HG
    have hrw := HG.out.rw (c := n) (by rw [HLn.out]; exact Nat.le_refl _) hmx
    rw [HLn.out] at hrw
    have hnx := Lib.hid (next_any _ L w1 hrw)
    clear hrw
    by_cases hlt : fst_ L < n
    · have hlx : fst_ L < L.length := by rw [HLn.out]; exact hlt
      rw [fdo_yes hlx] at hnx
      have hne := fst_ne hlx
      have hyu := HU.out _ (getD_mem [] hlx)
      have HOK := Lib.hid (lgs_ok (s := s) (l := l) L m a hlx)
      have HER := Lib.hid (lgs_er (s := s) (l := l) L m a hlx)
      have HEM := Lib.hid (fun (i : Nat) (h : i ≤ fst_ L) => set_emp (L := L) i h)
      have hpl2 : pl < fst_ L := by
        rcases Nat.lt_or_ge pl (fst_ L) with q | q
        · exact q
        · exact absurd (HPL.out _ q) hne
      generalize fst_ L = j at hnx hlt hlx hne hyu HOK HER HEM hpl2
      go_wp2_with (fail)
      refine hnx.out.mono ?_
      rintro e w2 ⟨rfl, h2⟩
      have hUW : Up w1 (World.drew w2) := h2.drew
      have U2 := U.trans hUW
      have X2 := X.up hUW
      have Z2 := Z0.up hUW
      have G2 := Lib.hid (HG.out.up hUW)
      have sit2 := Lib.hid (hsit.out.up hUW)
      clear h2 hUW hnx U X Z0 HG hsit
      obtain ⟨u, hju, hcu, hsu⟩ := G2.out.at_ (x := j) hlx
      obtain ⟨A, cap, hu1, hu2, hu3, hu4, hu5⟩ := hsu
      have hpos : 0 < (L.getD j []).length := List.length_pos_iff.2 hne
      obtain ⟨p, hp, hrow⟩ := hu5.2 hpos
      subst hp hu1
      have hdn := Lib.hid (done_any m s a l x y P Q c d (.slice (some p) (L.getD j []).length cap) (L.getD j []) (World.drew w2) sit2.out hrg.out.wf hrg.out.rg hrg.out.hl ⟨_, _, rfl, hu2, hu3, hu4, hu5⟩ hyu)
      have hrowH := Lib.hid hrow
      have hcut := fun w => (run_lo p (L.getD j []).length cap (don s l (L.getD j []) m a).n (don_le _ _ _) hu2 w).1
      have hcut2 := fun w => (run_lo p (L.getD j []).length cap (don s l (L.getD j []) m a).n (don_le _ _ _) hu2 w).2
      have hlosl := Lib.hid (fun (w : World) (h : Row w p (L.getD j [])) => lo_sl (q := (don s l (L.getD j []) m a).n) h rfl (don_le _ _ _) hu2 hu3)
      have hkb := Lib.hid (don_kb (s := s) (l := l) (L.getD j []) m a sit2.out.1 hrg.out.wf hrg.out.rg hrg.out.hl)
      have hlen := Lib.hid (don_len (s := s) (l := l) (L.getD j []) m a)
      have HR := Lib.hid (show L.getD j [] = L.getD j [] from rfl)
      generalize hD : don s l (L.getD j []) m a = D at hdn hcut hcut2 hlosl hkb hlen HOK HER
      clear hD
      obtain ⟨K, a', q, er⟩ := D
      generalize hrr : L.getD j [] = r at hdn hcut hcut2 hlosl hlen hrowH HER hu2 hne hpos hyu hcu hju
      clear hrr HR hu5 hrow hyu hne
      have HK0 : ∃ k, r.length = k := ⟨_, rfl⟩
      obtain ⟨k, hk⟩ := HK0
      rw [hk] at hdn hcut hcut2 hlosl hlen hcu hu2 hju hpos
      have HK := Lib.hid hk
      clear hk
      unfold DnPost at hdn
      simp only [] at hdn hcut hcut2 hlosl hkb hlen HOK HER
      have X2c := X2.cell
      have X2l := X2.lt
      simp only [roc] at X2c
      have hj0 : (0 : Int) ≤ (j : Int) := by omega
      have hj1 : (j : Int) < (n : Int) := by omega
      have gX : ¬ G = w.heap.size := by have := HGw.out; omega
      have gX2 : ¬ w.heap.size = G := fun e => gX e.symm
      have B2 := G2.out.1
      have hcell := Lib.hid (show ∀ V : World, Blk V G 32 us.toArray → V.cell? ⟨G, j, none⟩ = some (.slice (some p) k cap) from fun V hV => by rw [hV.cell j, List.getElem?_toArray]; exact hju)
      have HJU := Lib.hid hju
      clear hju hu4 hu3
      go_wp2_with (fail)
      go_region_with (go_at_call 25; ((with_reducible refine hdn.out.mono ?_); (rintro e w3 ⟨P', Q', c', d', rfl, s3, h3⟩); have BZ := B2.up h3; have XZ := X2.up h3; have XZc := XZ.cell; have XZf := XZ.frozen; have XZl := XZ.lt))
      all_goals
        clear XZc XZf XZl X2c X2l hcu hdn hcell
        have gZ : ¬ G = w.heap.size + 1 := by have := HGw.out; omega
        have gZ2 : ¬ w.heap.size + 1 = G := fun e => gZ e.symm
        refine gen_exit (Y := fun W4 => (Sits W4 K P' Q' c' d' ∧ Up w W4) ∧ (Blk W4 w.heap.size 31 (roc K.n (sl P' K.n c') (sl Q' K.n d') s a' l x y) ∧ Blk W4 (w.heap.size + 1) 31 zr) ∧ Grid W4 G us L ∧ Row W4 p r)
          ⟨⟨s3.far8 XZ _ _ _ _ _ _ _ _, (U2.trans h3).set8 (Nat.le_refl _) _ _ _ _ _ _ _ _⟩, ⟨XZ.set8 _ _ _ _ _ _ _ _, (Z2.up h3).far8 (by simp <;> omega) _ _ _ _ _ _ _ _⟩, (G2.out.up h3).kpC gX XZ (roc_no _ _ _ _ _ _ _ _ _ _ _ _) (Kp.all8 _ _ _ _ _ _ _ _ _), (hrowH.out.up h3).kp (Kp.all8 _ _ _ _ _ _ _ _ _) (fun hm => (hrowH.out.up h3).apartC (by rw [HK.out]; exact hpos) XZ (roc_no _ _ _ _ _ _ _ _ _ _ _ _) (List.mem_singleton.1 hm))⟩ ?_
        rintro W4 ⟨⟨s4, U4⟩, ⟨X4, Z4⟩, G4, R4⟩
        clear s3 U2 X2 Z2 G2 sit2 hrowH h3 BZ XZ B2
        have hcu4 : W4.cell? ⟨G, j, none⟩ = some (.slice (some p) k cap) := by rw [G4.1.cell j, List.getElem?_toArray]; exact HJU.out
        have hS := Lib.hid (hlosl.out W4 R4)
        have G4f := G4.1.frozen
        have G4l := G4.1.lt
        have X4c := X4.cell
        have X4l := X4.lt
        have Z4c := Z4.cell
        have Z4f := Z4.frozen
        have Z4l := Z4.lt
        simp only [zr, roc] at X4c Z4c
        have G4H := Lib.hid G4
        have s4H := Lib.hid s4
        have U4H := Lib.hid U4
        have X4H := Lib.hid X4
        have Z4H := Lib.hid Z4
        clear hlosl R4 G4 s4 U4 X4 Z4
        by_cases e : er = 0
        · subst e
          have HOK2 := Lib.hid ((HOK.out rfl).symm.trans HZ.out)
          have HQ := Lib.hid (show r.drop q = [] from List.drop_eq_nil_of_le (by rw [HK.out, hlen.out rfl]; exact Nat.le_refl _))
          clear HER HOK hlen
          go_wp2_with (fail)
          go_step3
          have k5 : Kp [G] W4 (W4.setCell ⟨G, j, none⟩ (.slice (some (loA p cap q)) (k - q) (cap - q))) := (Kp.refl [G] W4).set_ (by simp) _
          have hG5 := G4H.out.put (x := j) hS.out
          rw [HQ.out] at hG5
          refine ⟨rfl, ⟨j, L.set j [], _, K, a', P', Q', c', d', _, _, _, _, _, _, _, _, _, _, _, _, _, _, _, _, _, _, _, _, _, _, _, _, _, _, _, _, _, _, _, _, _, _, _, _, _, _, _, rfl, hlt, HEM.out, by rw [List.length_set]; exact HLn.out, set_mem HU.out (fun z hz => (by cases hz)), s4H.out.kpC G4H.out.1 G4H.out.2.2.1.no k5, hrg.out.kb hkb.out, HOK2.out, U4H.out.setCell (by simp only []; have := HGw.out; omega) _, X4H.out.far gX2 _, Z4H.out.far gZ2 _, hG5⟩, ?_⟩
          (simp [intOf]; omega)
        · have HER2 := Lib.hid ((HER.out e).symm.trans HZ.out)
          have hb : (er != 0) = true := bne_iff_ne.mpr e
          clear HER HOK hlen e
          go_wp2_with (fail)
          (try simp only [Exit.jump])
          have k5 : Kp [G] W4 (W4.setCell ⟨G, j, none⟩ (.slice (some (loA p cap q)) (k - q) (cap - q))) := (Kp.refl [G] W4).set_ (by simp) _
          have Z5 := Z4H.out.far (p := ⟨G, j, none⟩) gZ2 (.slice (some (loA p cap q)) (k - q) (cap - q))
          refine bodyPost_ret (ret_room3 rfl _ _ _ K.n s a' l x y (sl P' K.n c') (sl Q' K.n d') (.slice (some ⟨G, 0, none⟩) n n) _ rfl (Z5.set8 (.int .i64 K.n) (sl P' K.n c') (sl Q' K.n d') (.int .i64 s) (.int .i64 a') (.int .i64 l) (.int .i64 x) (.int .i64 y)) rfl rfl) rfl ?_
          rw [← HER2.out]
          have G6 := (G4H.out.put (x := j) hS.out).kpC gZ Z5 (roc_no _ _ _ _ _ _ _ _ _ _ _ _) (Kp.all8 _ (.int .i64 K.n) (sl P' K.n c') (sl Q' K.n d') (.int .i64 s) (.int .i64 a') (.int .i64 l) (.int .i64 x) (.int .i64 y))
          have R6 := G6.rw (c := n) (by rw [List.length_set, HLn.out]; exact Nat.le_refl _) hmx
          rw [List.length_set, HLn.out] at R6
          exact ⟨P', Q', c', d', _, rfl, (s4H.out.kpC G4H.out.1 G4H.out.2.2.1.no k5).far8 Z5 _ _ _ _ _ _ _ _, R6, (U4H.out.setCell (by simp only []; have := HGw.out; omega) _).set8 (by omega) _ _ _ _ _ _ _ _⟩
    · have HLe : Hid (lgs s l L m a = ⟨m, a, L, 0⟩) := Lib.hid (lgs_end L m a (by have := fst_le L; have := HLn.out; omega))
      rw [fdo_no (by rw [HLn.out]; exact hlt)] at hnx
      go_wp2_with (fail)
      refine hnx.out.mono ?_
      rintro e w2 ⟨rfl, h2⟩
      have U2 := U.trans h2
      have X2 := X.up h2
      have Z2 := Z0.up h2
      have G2 := Lib.hid (HG.out.up h2)
      have sit2 := Lib.hid (hsit.out.up h2)
      clear h2 hnx U X Z0 HG hsit
      have X2c := X2.cell
      have X2f := X2.frozen
      have X2l := X2.lt
      have Z2c := Z2.cell
      have Z2f := Z2.frozen
      have Z2l := Z2.lt
      simp only [zr, roc] at X2c Z2c
      go_wp2_with (fail)
      (try simp only [Exit.jump])
      refine bodyPost_ret (ret_room3 rfl _ _ _ m.n s a l x y (sl P m.n c) (sl Q m.n d) (.slice (some ⟨G, 0, none⟩) n n) _ rfl (Z2.set8 (.int .i64 m.n) (sl P m.n c) (sl Q m.n d) (.int .i64 s) (.int .i64 a) (.int .i64 l) (.int .i64 x) (.int .i64 y)) rfl rfl) rfl ?_
      rw [← HZ.out, HLe.out]
      have gZ : G ≠ w.heap.size + 1 := by have := HGw.out; omega
      have G3 := G2.out.kpC gZ Z2 (roc_no _ _ _ _ _ _ _ _ _ _ _ _) (Kp.all8 _ (.int .i64 m.n) (sl P m.n c) (sl Q m.n d) (.int .i64 s) (.int .i64 a) (.int .i64 l) (.int .i64 x) (.int .i64 y))
      have R3 := G3.rw (c := n) (by rw [HLn.out]; exact Nat.le_refl _) hmx
      rw [HLn.out] at R3
      exact ⟨P, Q, c, d, _, rfl, sit2.out.far8 Z2 _ _ _ _ _ _ _ _, R3, U2.set8 (by omega) _ _ _ _ _ _ _ _⟩

end Go.Proofs.Ytgcpkgogjcgfbaa.E
