/- Entries (a word and a number each), rows of them, and the document's Same: contracts. -/
import Derived.Test.YtgofejhjnbnecaaBs2
import Derived.ArgAppend
namespace Go.Proofs.Ytgofejhjnbnecaa
open Go.Joins Go.ChangeShapes Go.WideShapes Go.ChangeAt Go.RowKit Go.Deep Go.Shelf Go.Maps
set_option linter.unusedVariables false
set_option linter.unusedSimpArgs false

/-- An entry: an object's address, a field's number. -/
abbrev Ent := Int × Int
def evs : List Ent → List Value
  | [] => []
  | x :: r => .int .u64 x.1 :: .int .i64 x.2 :: evs r
theorem evs_len : ∀ xs : List Ent, (evs xs).length = xs.length * 2
  | [] => rfl
  | x :: r => by simp only [evs, List.length_cons, evs_len r]; omega
theorem evs_one : ∀ xs : List Ent, ∀ v ∈ evs xs, v.oneCell' = true
  | [], v, h => by cases h
  | x :: r, v, h => by
    simp only [evs, List.mem_cons] at h
    rcases h with rfl | rfl | h
    · rfl
    · rfl
    · exact evs_one r v h
theorem evs_app : ∀ xs ys : List Ent, evs (xs ++ ys) = evs xs ++ evs ys
  | [], ys => rfl
  | x :: r, ys => by simp [evs, evs_app r ys]
theorem evs_at : ∀ (xs : List Ent) (j : Nat) (x : Ent), xs[j]? = some x → (evs xs)[j * 2]? = some (.int .u64 x.1) ∧ (evs xs)[j * 2 + 1]? = some (.int .i64 x.2)
  | [], j, x, h => by simp at h
  | y :: r, 0, x, h => by simp at h; subst h; simp [evs]
  | y :: r, j + 1, x, h => by
    have := evs_at r j x (by simpa using h)
    rw [show (j + 1) * 2 = j * 2 + 1 + 1 from by omega]
    simpa [evs] using this
/-- The next cell's address, as the walk spells it. -/
abbrev nxt (q : Addr) : Addr := ⟨q.block, q.off + 1, none⟩
theorem nxt_add (p : Addr) (j : Nat) : nxt (p.add j) = p.add (j + 1) := by
  rw [← add_add]
  rfl
/-- A row of entries lies at an address. -/
def Row (w : World) (p : Addr) (xs : List Ent) : Prop := p.block < w.heap.size ∧ ∀ j v, (evs xs)[j]? = some v → w.cell? (p.add j) = some v
theorem Row.up {w w' : World} {p : Addr} {xs : List Ent} (h : Row w p xs) (k : Up w w') : Row w' p xs :=
  ⟨Nat.lt_of_lt_of_le h.1 k.size, fun j x hx => (Below.cell k (by rw [block_of_add]; exact h.1)).trans (h.2 j x hx)⟩
theorem Row.at_ {w : World} {p : Addr} {xs : List Ent} (h : Row w p xs) (j : Nat) (hj : j < xs.length) : w.cell? (p.add (j * 2)) = some (.int .u64 (xs.getD j (0, 0)).1) ∧ w.cell? (nxt (p.add (j * 2))) = some (.int .i64 (xs.getD j (0, 0)).2) := by
  have e := evs_at xs j xs[j] (List.getElem?_eq_getElem hj)
  simp only [List.getD, List.getElem?_eq_getElem hj, Option.getD_some]
  exact ⟨h.2 _ _ e.1, by rw [nxt_add]; exact h.2 _ _ e.2⟩
theorem Row.src {w : World} {p : Addr} {xs : List Ent} (h : Row w p xs) : ∀ j v, (evs xs)[j]? = some v → w.cell? (p.add j) = some v := h.2
theorem row_of_blk {w : World} {g : Nat} {t : TypeId} {xs : List Ent} (h : Blk w g t (evs xs).toArray) : Row w ⟨g, 0, none⟩ xs :=
  ⟨h.lt, fun j v hv => by rw [add_zero', h.cell j]; simpa using hv⟩
/-- A slice reads as a list of entries, nil let in. -/
def Rd (w : World) (A : Option Addr) (n : Nat) (xs : List Ent) : Prop := xs.length = n ∧ (0 < n → ∃ p, A = some p ∧ Row w p xs)
theorem Rd.up {w w' : World} {A : Option Addr} {n : Nat} {xs : List Ent} (h : Rd w A n xs) (k : Up w w') : Rd w' A n xs :=
  ⟨h.1, fun hn => by obtain ⟨p, e, hr⟩ := h.2 hn; exact ⟨p, e, hr.up k⟩⟩
theorem Rd.of_row {w : World} {p : Addr} {xs : List Ent} {n : Nat} (h : Row w p xs) (hn : xs.length = n) : Rd w (some p) n xs := ⟨hn, fun _ => ⟨p, rfl, h⟩⟩
theorem Rd.at_ {w : World} {A : Option Addr} {n x : Nat} {xs : List Ent} (h : Rd w A n xs) (hx : x < n) : ∃ p, A = some p ∧ w.cell? (p.add (x * 2)) = some (.int .u64 (xs.getD x (0, 0)).1) ∧ w.cell? (nxt (p.add (x * 2))) = some (.int .i64 (xs.getD x (0, 0)).2) := by
  obtain ⟨p, e, hr⟩ := h.2 (by omega)
  exact ⟨p, e, hr.at_ x (by rw [h.1]; exact hx)⟩
theorem take_more {α : Type} {xs ys : List α} {x : Nat} (d : α) (h : xs.take x = ys.take x) (h1 : x < xs.length) (h2 : x < ys.length) (e : xs.getD x d = ys.getD x d) : xs.take (x + 1) = ys.take (x + 1) := by
  rw [List.take_succ_eq_append_getElem h1, List.take_succ_eq_append_getElem h2, h]
  simp [List.getD, List.getElem?_eq_getElem h1, List.getElem?_eq_getElem h2] at e
  rw [e]
theorem ne_of_get {α : Type} {xs ys : List α} {x : Nat} (d : α) (e : xs.getD x d ≠ ys.getD x d) : xs ≠ ys := fun h => e (by rw [h])
def bE (a b c d : Int) : Bool := decide (a = c ∧ b = d)
theorem eq_ent (a b c d : Int) (w : World) : (binOp .eql 25 (.agg #[.int .u64 a, .int .i64 b]) (.agg #[.int .u64 c, .int .i64 d])).run Try.prog w = .ok (.bool (bE a b c d)) w := by
  rw [run_eql_struct, run_equalIn_agg _ _ _ _ _ (by rw [fieldsOf_of Try.underlying25]; exact Try.underlying25) (by kernel_rfl), fieldsOf_of Try.underlying25]
  simp [Op.eqFields, go_sem, bE]
  by_cases h : a = c <;> by_cases k : b = d <;> simp [h, k]
theorem ne_ent (a b c d : Int) (w : World) : (binOp .neq 25 (.agg #[.int .u64 a, .int .i64 b]) (.agg #[.int .u64 c, .int .i64 d])).run Try.prog w = .ok (.bool (!bE a b c d)) w := by
  rw [run_neq_struct, run_equalIn_agg _ _ _ _ _ (by rw [fieldsOf_of Try.underlying25]; exact Try.underlying25) (by kernel_rfl), fieldsOf_of Try.underlying25]
  simp [Op.eqFields, go_sem, bE]
  by_cases h : a = c <;> by_cases k : b = d <;> simp [h, k]
def EqRel (w : World) (xs ys : List Ent) (n : Nat) (i : Value) (wr : World) : Prop := ∃ x : Nat, x ≤ n ∧ i = .int .i64 x ∧ xs.take x = ys.take x ∧ ∃ m, wr = w.drewN m
set_option maxHeartbeats 2000000 in
theorem same_same (A B : Option Addr) (n c d : Nat) (xs ys : List Ent) (w : World) (hx : Rd w A n xs) (hy : Rd w B n ys) (hn : n ≤ maxLen) :
    Calls Try.prog 17 #[.slice A n c, .slice B n d] w fun e w' => e = .returned (.bool (decide (xs = ys))) ∧ ∃ m, w' = w.drewN m := by
  have HX := Lib.hid hx
  have HY := Lib.hid hy
  have Lx := Lib.hid hx.1
  have Ly := Lib.hid hy.1
  unfold maxLen at hn
  generalize hB : decide (xs = ys) = bo
  have HB := Lib.hid hB
  clear hx hy hB
  go_enter Try.func17, Try.ntmps17
  go_wp2
  go_loopw [5] (fun i wr => EqRel w xs ys n i wr) (fun i _ => n - (intOf i).toNat)
  case atStart => exact ⟨0, Nat.zero_le _, rfl, rfl, 0, rfl⟩
  case round =>
    obtain ⟨x, hx, rfl, ht, m, rfl⟩ := hrel
    have HT := Lib.hid ht
    clear ht
    by_cases hlt : x < n
    · obtain ⟨p, rfl, hcp, hcp2⟩ := HX.out.at_ hlt
      obtain ⟨q, rfl, hcq, hcq2⟩ := HY.out.at_ hlt
      by_cases e : xs.getD x (0, 0) = ys.getD x (0, 0)
      · have E := Lib.hid e
        rw [← e] at hcq hcq2
        generalize xs.getD x (0, 0) = u at hcp hcq hcp2 hcq2
        obtain ⟨u1, u2⟩ := u
        simp only [] at hcp hcq hcp2 hcq2
        clear e
        have he := ne_ent u1 u2 u1 u2
        rw [show bE u1 u2 u1 u2 = true from by simp [bE]] at he
        go_wp2
        go_quiet (fail)
        go_wp2
        refine ⟨⟨x + 1, by omega, by go_num, take_more (0, 0) HT.out (by rw [Lx.out]; exact hlt) (by rw [Ly.out]; exact hlt) E.out, m + nq, rfl⟩, by simp [intOf]; omega⟩
      · have E := Lib.hid e
        generalize hu : xs.getD x (0, 0) = u at hcp hcp2 e
        generalize hv : ys.getD x (0, 0) = v at hcq hcq2 e
        obtain ⟨u1, u2⟩ := u
        obtain ⟨v1, v2⟩ := v
        simp only [] at hcp hcq hcp2 hcq2
        have he := ne_ent u1 u2 v1 v2
        rw [show bE u1 u2 v1 v2 = false from decide_eq_false (fun k => e (by rw [k.1, k.2]))] at he
        clear e hu hv
        go_wp2
        go_quiet (fail)
        go_wp2
        go_ret
        exact ⟨show Ending.returned (.bool false) = .returned (.bool bo) from by rw [← HB.out, decide_eq_false (ne_of_get (0, 0) E.out)], m + nq, by first | rfl | rw [World.drewN_drewN]⟩
    · obtain rfl : n = x := by omega
      go_wp2
      go_ret
      have h := HT.out
      rw [List.take_of_length_le (by rw [Lx.out]; exact Nat.le_refl _), List.take_of_length_le (by rw [Ly.out]; exact Nat.le_refl _)] at h
      exact ⟨show Ending.returned (.bool true) = .returned (.bool bo) from by rw [← HB.out, decide_eq_true h], m, rfl⟩
set_option maxHeartbeats 2000000 in
theorem same_len (A B : Option Addr) (n k c d : Nat) (w : World) (hnk : n ≠ k) :
    Calls Try.prog 17 #[.slice A n c, .slice B k d] w fun e w' => e = .returned (.bool false) ∧ ∃ m, w' = w.drewN m := by
  have hb : ((n : Int) != (k : Int)) = true := bne_iff_ne.mpr (by omega)
  clear hnk
  go_enter Try.func17, Try.ntmps17
  go_wp2
  go_ret
  exact ⟨rfl, 0, rfl⟩
theorem same_rd (A B : Option Addr) (n k c d : Nat) (xs ys : List Ent) (w : World) (hx : Rd w A n xs) (hy : Rd w B k ys) (hn : n ≤ maxLen) :
    Calls Try.prog 17 #[.slice A n c, .slice B k d] w fun e w' => e = .returned (.bool (decide (xs = ys))) ∧ ∃ m, w' = w.drewN m := by
  by_cases h : n = k
  · subst h
    exact same_same A B n c d xs ys w hx hy hn
  · rw [decide_eq_false (fun e => h (by rw [← hx.1, ← hy.1, e]))]
    exact same_len A B n k c d w h

/-! ### Rows of the call's own, slices of entries -/
theorem info_ent : (Try.prog.info? 25).map (fun i => (i.zero, i.size, i.bytes)) = some (some (.agg #[.int .u64 0, .int .i64 0]), 2, 16) := by kernel_rfl
/-- A row of the call's own. -/
def Lo (w : World) (n₀ : Nat) (v : Value) (xs : List Ent) : Prop := w.ownsRow n₀ 25 2 v xs.length (evs xs)
theorem Lo.sl {w : World} {n₀ : Nat} {v : Value} {xs : List Ent} (h : Lo w n₀ v xs) : ∃ A cap, v = .slice A xs.length cap ∧ xs.length ≤ cap ∧ cap ≤ maxLen ∧ Rd w A xs.length xs := by
  obtain ⟨hl, hc⟩ := h
  rcases hc with ⟨rfl, h0⟩ | ⟨g, cap, cur, rfl, hb, hg, h1, h2, h3, h4⟩
  · obtain rfl : xs = [] := List.eq_nil_of_length_eq_zero h0
    exact ⟨none, 0, rfl, Nat.le_refl _, Nat.zero_le _, rfl, fun q => absurd q (by simp)⟩
  · refine ⟨_, _, rfl, h1, h2, rfl, fun q => ⟨_, rfl, (Array.getElem?_eq_some_iff.1 hg).1, fun j v hj => ?_⟩⟩
    rw [add_zero', cell_of_row w g j cur _ (0, 0) hg]
    have hlt : j < (evs xs).length := by
      rcases Nat.lt_or_ge j (evs xs).length with q | q
      · exact q
      · rw [List.getElem?_eq_none q] at hj; cases hj
    rw [evs_len] at hlt
    rw [← h4, List.getElem?_take, if_pos (by omega)] at hj
    simpa using hj
theorem Lo.nil (w : World) (n₀ : Nat) : Lo w n₀ (.slice none 0 0) [] := World.ownsRow_nil _ _ _ _
theorem Lo.up {w w' : World} {n₀ : Nat} {v : Value} {xs : List Ent} (h : Lo w n₀ v xs) (k : Up w w') : Lo w' n₀ v xs :=
  World.ownsRow.kept h k.gb (by
    cases e : v.ownBlock with
    | none => exact .inl rfl
    | some g => exact .inr (by simp))
theorem Lo.le {w : World} {n₀ n₁ : Nat} {v : Value} {xs : List Ent} (h : Lo w n₀ v xs) (k : n₁ ≤ n₀) : Lo w n₁ v xs :=
  ⟨h.1, h.2.imp id fun ⟨g, cap, cur, h1, h2, r⟩ => ⟨g, cap, cur, h1, Nat.le_trans k h2, r⟩⟩
theorem lo_empty {V : World} {g n₀ : Nat} (h : Blk V g 25 #[]) (hb : n₀ ≤ g) : Lo V n₀ (.slice (some ⟨g, 0, none⟩) 0 0) [] := ⟨rfl, .inr ⟨g, 0, #[], rfl, hb, h, Nat.le_refl _, Nat.zero_le _, rfl, rfl⟩⟩
theorem own_ne_obj {w : World} {n₀ Bp : Nat} {v : Value} {xs : List Ent} (h : Lo w n₀ v xs) (ho : ∃ o, w.heap[Bp]? = some o ∧ o.isCells = false) : v.ownBlock = none ∨ v.ownBlock ≠ some Bp := by
  refine .inr (fun e => ?_)
  obtain ⟨o, ho, hc⟩ := ho
  rcases h.2 with ⟨rfl, _⟩ | ⟨g, cap, cur, rfl, _, hg, _⟩
  · simp [Value.ownBlock] at e
  · obtain rfl : g = Bp := by simpa [Value.ownBlock] using e
    rw [hg] at ho
    cases ho
    cases hc
/-- A slice of entries. -/
def Sl (w : World) (v : Value) (xs : List Ent) : Prop := ∃ A c, v = .slice A xs.length c ∧ xs.length ≤ c ∧ c ≤ maxLen ∧ (A = none → c = 0) ∧ Rd w A xs.length xs
theorem Sl.up {w w' : World} {v : Value} {xs : List Ent} (h : Sl w v xs) (k : Up w w') : Sl w' v xs := by
  obtain ⟨A, c, e, h1, h2, h3, h4⟩ := h
  exact ⟨A, c, e, h1, h2, h3, h4.up k⟩
theorem Sl.of_lo {w : World} {n₀ : Nat} {v : Value} {xs : List Ent} (h : Lo w n₀ v xs) : Sl w v xs := by
  obtain ⟨A, c, e, h1, h2, h3⟩ := h.sl
  refine ⟨A, c, e, h1, h2, fun q => ?_, h3⟩
  subst q
  obtain ⟨-, hc⟩ := h
  rcases hc with ⟨rfl, h0⟩ | ⟨g, cap, cur, rfl, _⟩
  · rw [h0] at e; cases e; rfl
  · cases e
theorem Sl.nil (w : World) : Sl w (.slice none 0 0) [] := ⟨none, 0, rfl, Nat.le_refl _, Nat.zero_le _, fun _ => rfl, rfl, fun q => absurd q (by simp)⟩
theorem Sl.rd {w : World} {A : Option Addr} {n c : Nat} {xs : List Ent} (h : Sl w (.slice A n c) xs) : Rd w A n xs := by
  obtain ⟨A', c', e, _, _, _, h4⟩ := h
  cases e
  exact h4
theorem Sl.len {w : World} {A : Option Addr} {n c : Nat} {xs : List Ent} (h : Sl w (.slice A n c) xs) : xs.length = n := h.rd.1
theorem Sl.max {w : World} {v : Value} {xs : List Ent} (h : Sl w v xs) : xs.length ≤ maxLen := by
  obtain ⟨A, c, e, h1, h2, _⟩ := h
  omega
theorem Sl.slice {w : World} {v : Value} {xs : List Ent} (h : Sl w v xs) : ∃ A n c, v = .slice A n c := by
  obtain ⟨A, c, e, _⟩ := h
  exact ⟨_, _, _, e⟩
theorem sameq_any (u v : Value) (xs ys : List Ent) (w : World) (hx : Sl w u xs) (hy : Sl w v ys) :
    Calls Try.prog 17 #[u, v] w fun e w' => e = .returned (.bool (decide (xs = ys))) ∧ ∃ m, w' = w.drewN m := by
  have hm := hx.max
  obtain ⟨A, c, rfl, -, -, -, hr⟩ := hx
  obtain ⟨B, d, rfl, -, -, -, hs⟩ := hy
  exact same_rd A B _ _ c d xs ys w hr hs hm
theorem same_any (u v : Value) (xs ys : List Ent) (w : World) (hx : Sl w u xs) (hy : Sl w v ys) :
    Calls Try.prog 17 #[u, v] w fun e w' => e = .returned (.bool (decide (xs = ys))) ∧ Up w w' :=
  (sameq_any u v xs ys w hx hy).mono fun e w' ⟨h, m, hm⟩ => ⟨h, by rw [hm]; exact (Up.refl w).drewN m⟩
end Go.Proofs.Ytgofejhjnbnecaa
