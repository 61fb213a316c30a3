/- Rows that are pushed, popped and made anew (package stack: Push, Pop, anew), and the document's Push and Pop: contracts. -/
import Derived.Test.YtpbbbgcafphplaaSk1
namespace Go.Proofs.Ytpbbbgcafphplaa
open Go.Joins Go.ChangeShapes Go.WideShapes Go.ChangeAt Go.RowKit Go.Deep Go.Shelf Go.Maps
set_option linter.unusedVariables false
set_option linter.unusedSimpArgs false

/-- An append of nothing onto nothing. -/
theorem run_nothing (A B : Option Addr) (c : Nat) (ty : TypeId) (w : World) : (Builtin.append_ #[22, 22] ty #[.slice A 0 0, .slice B 0 c]).run Try.prog w = .ok (.slice A 0 0) w := by
  obtain ⟨i0, hi, hz0, hz1, hz2⟩ := info_parts info_u64
  cases A <;> cases B <;> simp [Builtin.append_, run_underlying Try.underlying22, sizeOf, typeInfo, hi, Builtin.lenOf, Builtin.firstCells, loadCells, loadCellsFrom, storeCells]
theorem wpList_nothing {w : World} {ops : Array Oper} {rest : List Oper} {o : Oper} {a : Act} {Q : Exit → Act → World → Prop} (hgd : o.guard = none) (s x : Operand)
    (ho : o.op = .call { callee := .builtin .append, args := #[s, x], argTypes := #[22, 22] })
    (A B : Option Addr) (c : Nat) (hs : a.eval s = .slice A 0 0) (hx : a.eval x = .slice B 0 c)
    (h : wpList Try.prog ops Q rest (a.put o.dst (.slice A 0 0)) w) : wpList Try.prog ops Q (o :: rest) a w := by
  refine wpList_plain hgd fun K hK => ?_
  unfold Oper.wp execOp
  simp only [ho, resolve, invoke, builtin, Sem.run_bind, Sem.run_pure, Result.andThen_ok, List.map_toArray, List.map_cons, List.map_nil, hs, hx, run_nothing]
  exact hK _ _ h
/-- A row of its own, of as many words as it is cut to, takes more: it moves to a new block. -/
theorem wpList_more {w : World} {ops : Array Oper} {rest : List Oper} {o : Oper} {a : Act} {Q : Exit → Act → World → Prop} (hgd : o.guard = none) (s x : Operand)
    (ho : o.op = .call { callee := .builtin .append, args := #[s, x], argTypes := #[22, 22] })
    (A : Option Addr) (xs : List Int) (n : Nat) (hs : a.eval s = .slice A n n) (hx : Rd w A n xs)
    (p : Addr) (ys : List Int) (m c : Nat) (hy : a.eval x = .slice (some p) m c) (hyl : ys.length = m) (hyr : Row w p ys) (hp : 0 < m) (hb : n + m ≤ 17592186044416)
    (h : ∀ v' w', Lo w' w.heap.size v' (xs ++ ys) → Up w w' → wpList Try.prog ops Q rest (a.put o.dst v') w') : wpList Try.prog ops Q (o :: rest) a w := by
  subst hyl
  have hxl := hx.1
  subst hxl
  obtain ⟨i0, hi, hz0, hz1, hz2⟩ := info_parts info_u64
  refine wpList_append_grows w hgd s x _ ho 23 i0 (.int .u64 0) 1 8 Try.underlying22 hi hz0 hz1 hz2 rfl (by decide) A _ _ (wds xs) hs (fun e => ?_) (by simp [len_wds]) (fun b e j u hj => ?_) p _ c (wds ys) hy (by simp [len_wds]) hyr.src (one_wds ys) (by omega) (by unfold maxLen; omega) (by omega) ?_
  · have : xs.length = 0 := by
      rcases Nat.eq_zero_or_pos xs.length with q | q
      · exact q
      · obtain ⟨p, e2, _⟩ := hx.2 q
        rw [e] at e2
        cases e2
    exact ⟨this, this⟩
  · have hl : 0 < xs.length := by
      rcases Nat.eq_zero_or_pos xs.length with q | q
      · rw [List.eq_nil_of_length_eq_zero q] at hj
        cases hj
      · exact q
    obtain ⟨p', e2, hr⟩ := hx.2 hl
    rw [e] at e2
    cases e2
    exact hr.src j u hj
  · intro v' w' ho' hg
    refine h v' w' ?_ (Up.grown (Up.refl w) hg (fun k e => by cases e))
    unfold Lo
    rw [List.length_append, show wds (xs ++ ys) = wds xs ++ wds ys from by simp [wds]]
    exact ho'

/-- A row comes: of its own, where it holds anything. -/
def AnPost (xs : List Int) (w : World) (e : Ending) (w' : World) : Prop := ∃ v, e = .returned v ∧ Sl w' v xs ∧ (xs ≠ [] → Lo w' w.heap.size v xs) ∧ Up w w'
/-- A row and an error come. -/
def RePost (xs : List Int) (er : Int) (w : World) (e : Ending) (w' : World) : Prop := ∃ v, e = .returned (.tuple #[v, .int .i64 er]) ∧ Sl w' v xs ∧ Up w w'

theorem anew_nil (v : Value) (w : World) (hx : Sl w v []) : Calls Try.prog 27 #[v] w (AnPost [] w) := by
  obtain ⟨A, c, rfl, -, -, hA, -⟩ := hx
  go_enter Try.func27, Try.ntmps27
  cases A
  · obtain rfl := hA rfl
    go_wp2_with (at_builtin; refine wpList_nothing rfl _ _ rfl _ _ _ rfl rfl ?_)
    go_ret
    exact ⟨_, rfl, ⟨none, _, rfl, Nat.le_refl _, Nat.zero_le _, fun _ => rfl, rfl, fun q => absurd q (by simp)⟩, fun q => absurd rfl q, Up.refl _⟩
  · clear hA
    go_wp2_with (at_builtin; refine wpList_nothing rfl _ _ rfl _ _ _ rfl rfl ?_)
    go_ret
    exact ⟨_, rfl, ⟨some _, 0, rfl, Nat.le_refl _, Nat.zero_le _, fun q => (by cases q), rfl, fun q => absurd q (by simp)⟩, fun q => absurd rfl q, Up.refl _⟩
theorem anew_cons (p : Addr) (n c : Nat) (xs : List Int) (w : World) (hr : Row w p xs) (hl : xs.length = n) (hp : 0 < n) (hb : n ≤ 17592186044416) : Calls Try.prog 27 #[.slice (some p) n c] w (AnPost xs w) := by
  go_enter Try.func27, Try.ntmps27
  go_wp2_with (at_builtin; refine wpList_more rfl _ _ rfl _ [] 0 rfl ⟨rfl, fun q => absurd q (by simp)⟩ p xs n c rfl hl hr hp (by omega) ?_; intro v' w' hown hup)
  go_ret
  exact ⟨_, rfl, Sl.of_lo hown, fun _ => hown, hup⟩
theorem anew_any (v : Value) (xs : List Int) (w : World) (hx : Sl w v xs) (hb : xs.length ≤ 17592186044416) : Calls Try.prog 27 #[v] w (AnPost xs w) := by
  by_cases h : xs = []
  · subst h
    exact anew_nil v w hx
  · obtain ⟨A, c, rfl, -, -, -, hr⟩ := hx
    have hp : 0 < xs.length := List.length_pos_iff.2 h
    obtain ⟨p, rfl, hw⟩ := hr.2 hp
    exact anew_cons p _ c xs w hw rfl hp hb

/-- What is pushed. -/
def pus (xs : List Int) (a : Int) : List Int := if xs.length < 16 then xs ++ [a] else xs
def pue (xs : List Int) : Int := if xs.length < 16 then 0 else 4
theorem push_full (A : Option Addr) (n c : Nat) (xs : List Int) (a : Int) (w : World) (hx : Sl w (.slice A n c) xs) (h : 16 ≤ n) : Calls Try.prog 12 #[.slice A n c, .int .u64 a] w (RePost xs 4 w) := by
  have hd : decide ((16 : Int) ≤ n) = true := decide_eq_true (by omega)
  go_enter Try.func12, Try.ntmps12
  go_wp2
  go_ret2
  exact ⟨_, rfl, hx, Up.refl _⟩
theorem push_ok (A : Option Addr) (n c : Nat) (xs : List Int) (a : Int) (w : World) (hx : Rd w A n xs) (hn : A = none → n = 0 ∧ c = 0) (hc : n ≤ c) (hcm : c ≤ maxLen) (h : n < 16) : Calls Try.prog 12 #[.slice A n c, .int .u64 a] w (RePost (xs ++ [a]) 0 w) := by
  have hd : decide ((16 : Int) ≤ n) = false := decide_eq_false (by omega)
  unfold maxLen at hcm
  go_enter Try.func12, Try.ntmps12
  cases A
  · obtain ⟨rfl, rfl⟩ := hn rfl
    go_wp2_with (at_builtin; refine wpList_more rfl _ _ rfl none xs 0 rfl (hx.up ((Up.refl w).alloc _)) ⟨w.heap.size, 0, none⟩ [a] 1 1 rfl rfl (Blk.row (xs := [a]) (Blk.new w _ _)) (by omega) (by omega) ?_; intro v' w' hown hup)
    go_ret2
    exact ⟨_, rfl, Sl.of_lo hown, ((Up.refl w).alloc _).trans hup⟩
  · clear hn
    go_wp2_with (at_builtin; refine wpList_more rfl _ _ rfl (some _) xs n rfl (hx.up ((Up.refl w).alloc _)) ⟨w.heap.size, 0, none⟩ [a] 1 1 rfl rfl (Blk.row (xs := [a]) (Blk.new w _ _)) (by omega) (by omega) ?_; intro v' w' hown hup)
    go_ret2
    exact ⟨_, rfl, Sl.of_lo hown, ((Up.refl w).alloc _).trans hup⟩
theorem push_any (v : Value) (xs : List Int) (a : Int) (w : World) (hx : Sl w v xs) : Calls Try.prog 12 #[v, .int .u64 a] w (RePost (pus xs a) (pue xs) w) := by
  have hx0 := hx
  obtain ⟨A, c, rfl, h1, h2, h3, hr⟩ := hx
  unfold pus pue
  by_cases h : xs.length < 16
  · rw [if_pos h, if_pos h]
    refine push_ok A _ c xs a w hr (fun e => ?_) h1 h2 h
    have := h3 e
    omega
  · rw [if_neg h, if_neg h]
    exact push_full A _ c xs a w hx0 (by omega)
/-- A row of the call's own takes more. -/
theorem wpList_own {w : World} {ops : Array Oper} {rest : List Oper} {o : Oper} {a : Act} {Q : Exit → Act → World → Prop} (hgd : o.guard = none) (s x : Operand)
    (ho : o.op = .call { callee := .builtin .append, args := #[s, x], argTypes := #[22, 22] })
    (n₀ : Nat) (v : Value) (xs : List Int) (hs : a.eval s = v) (hx : Lo w n₀ v xs)
    (p : Addr) (ys : List Int) (m c : Nat) (hy : a.eval x = .slice (some p) m c) (hyl : ys.length = m) (hyr : Row w p ys) (hp : 0 < m) (hb : xs.length + m ≤ 17592186044416) (hbase : n₀ ≤ w.heap.size)
    (h : ∀ g cap w', Lo w' n₀ (.slice (some ⟨g, 0, none⟩) (xs.length + m) cap) (xs ++ ys) → w.grownBy w' v.ownBlock → wpList Try.prog ops Q rest (a.put o.dst (.slice (some ⟨g, 0, none⟩) (xs.length + m) cap)) w') : wpList Try.prog ops Q (o :: rest) a w := by
  subst hyl
  obtain ⟨i0, hi, hz0, hz1, hz2⟩ := info_parts info_u64
  refine wpList_append_own_at w hgd s x _ ho n₀ 23 i0 (.int .u64 0) 1 8 Try.underlying22 hi hz0 hz1 hz2 rfl (by decide) v _ (wds xs) hs hx p _ c (wds ys) hy (by simp [len_wds]) hyr.src (one_wds ys) (by unfold maxLen; omega) (by omega) hbase ?_
  intro v' w' ho' hg _ _
  obtain ⟨k, hk⟩ : ∃ k, xs.length + ys.length = k + 1 := ⟨xs.length + ys.length - 1, by omega⟩
  rw [hk] at ho'
  obtain ⟨g', cap', rfl⟩ := ownsRow_succ ho'
  rw [← hk] at ho' ⊢
  refine h g' cap' w' ?_ hg
  unfold Lo
  rw [List.length_append, show wds (xs ++ ys) = wds xs ++ wds ys from by simp [wds]]
  exact ho'
theorem Up.own {W w w' : World} {v : Value} {xs : List Int} (h : Up W w) (hx : Lo w W.heap.size v xs) (hg : w.grownBy w' v.ownBlock) : Up W w' := h.grown hg (fun k e => (World.ownsRow.lt hx k e).1)

theorem rpush_full (A : Option Addr) (n c : Nat) (xs : List Int) (a : Int) (w : World) (hx : Sl w (.slice A n c) xs) (h : 16 ≤ n) : Calls Try.prog 13 #[.slice A n c, .int .u64 a] w (RePost xs 4 w) := by
  have hd : decide ((16 : Int) ≤ n) = true := decide_eq_true (by omega)
  go_enter Try.func13, Try.ntmps13
  go_wp2
  go_ret2
  exact ⟨_, rfl, hx, Up.refl _⟩
theorem rpush_nil (A : Option Addr) (c : Nat) (a : Int) (w : World) : Calls Try.prog 13 #[.slice A 0 c, .int .u64 a] w (RePost [a] 0 w) := by
  have hl : Lo (w.alloc (.cells #[] 23)) w.heap.size (.slice (some ⟨w.heap.size, 0, none⟩) 0 0) [] := lo_empty (Blk.new w _ _) (Nat.le_refl _)
  have U1 := (Up.refl w).alloc (.cells #[] 23)
  go_enter Try.func13, Try.ntmps13
  go_wp2_with (at_builtin; first | (refine wpList_nothing rfl _ _ rfl _ _ _ rfl rfl ?_) | (refine wpList_own rfl _ _ rfl w.heap.size _ [] rfl (World.ownsRow.alloc hl _) ⟨w.heap.size + 1, 0, none⟩ [a] 1 1 rfl rfl (Blk.row (xs := [a]) (Blk.new' _ (by simp) _ _)) (by omega) (by simp) (by simp; omega) ?_; intro g cap w' hown hg))
  go_ret2
  exact ⟨_, rfl, Sl.of_lo hown, Up.own (U1.alloc _) (World.ownsRow.alloc hl _) hg⟩
theorem rpush_cons (p : Addr) (n c : Nat) (xs : List Int) (a : Int) (w : World) (hx : Row w p xs) (hl : xs.length = n) (hp : 0 < n) (h : n < 16) : Calls Try.prog 13 #[.slice (some p) n c, .int .u64 a] w (RePost (xs ++ [a]) 0 w) := by
  have hd : decide ((16 : Int) ≤ n) = false := decide_eq_false (by omega)
  have U1 := (Up.refl w).alloc (.cells #[] 23)
  go_enter Try.func13, Try.ntmps13
  go_wp2_with (at_builtin; first | (refine wpList_more rfl _ _ rfl _ [] 0 rfl ⟨rfl, fun q => absurd q (by simp)⟩ p xs n c rfl hl (hx.up U1) hp (by omega) ?_; intro v' w' hown hup; have hl1 : Lo w' w.heap.size v' xs := Lo.le hown (by simp); have hsz := (Up.alloc (U1.trans hup) (.cells #[.int .u64 a] 23)).size; clear hown) | (refine wpList_own rfl _ _ rfl w.heap.size _ xs rfl (World.ownsRow.alloc hl1 _) ⟨w'.heap.size, 0, none⟩ [a] 1 1 rfl rfl (Blk.row (xs := [a]) (Blk.new _ _ _)) (by omega) (by omega) hsz ?_; intro g cap w2 hown2 hg))
  go_ret2
  rw [hl] at hown2
  exact ⟨_, rfl, Sl.of_lo hown2, Up.own ((U1.trans hup).alloc _) (World.ownsRow.alloc hl1 _) hg⟩
theorem rpush_any (v : Value) (xs : List Int) (a : Int) (w : World) (hx : Sl w v xs) : Calls Try.prog 13 #[v, .int .u64 a] w (RePost (pus xs a) (pue xs) w) := by
  have hx0 := hx
  obtain ⟨A, c, rfl, h1, h2, h3, hr⟩ := hx
  unfold pus pue
  by_cases h : xs.length < 16
  · rw [if_pos h, if_pos h]
    by_cases h0 : xs = []
    · subst h0
      exact rpush_nil A c a w
    · have hp : 0 < xs.length := List.length_pos_iff.2 h0
      obtain ⟨p, rfl, hw⟩ := hr.2 hp
      exact rpush_cons p _ c xs a w hw rfl hp h
  · rw [if_neg h, if_neg h]
    exact rpush_full A _ c xs a w hx0 (by omega)

/-- What is left behind a pop. -/
def pos (xs : List Int) : List Int := xs.take (xs.length - 1)
def poe (xs : List Int) : Int := if xs = [] then 9 else 0
theorem pop_none (A : Option Addr) (c : Nat) (w : World) (hx : Sl w (.slice A 0 c) []) : Calls Try.prog 14 #[.slice A 0 c] w (RePost [] 9 w) := by
  go_enter Try.func14, Try.ntmps14
  go_wp2
  go_ret2
  exact ⟨_, rfl, hx, Up.refl _⟩
theorem Sl.cut {w : World} {p : Addr} {n c : Nat} {xs : List Int} (hx : Row w p xs) (hl : xs.length = n) (k : Nat) (hk : k ≤ n) (hc : n ≤ c) (hcm : c ≤ maxLen) : Sl w (.slice (some p) k c) (xs.take k) := by
  have hl2 : (xs.take k).length = k := by rw [List.length_take]; omega
  exact ⟨some p, c, by rw [hl2], by omega, hcm, fun q => (by cases q), by rw [hl2]; exact Rd.take (Rd.of_row hx hl) hk⟩
theorem pop_some (p : Addr) (n c : Nat) (xs : List Int) (w : World) (hx : Row w p xs) (hl : xs.length = n) (hp : 0 < n) (hc : n ≤ c) (hcm : c ≤ maxLen) (hb : n ≤ 17592186044416) : Calls Try.prog 14 #[.slice (some p) n c] w (RePost (xs.take (n - 1)) 0 w) := by
  have hd : ((n : Int) == 0) = false := beq_eq_false_iff_ne.2 (by omega)
  have ha := Lib.hid (anew_any _ _ w (Sl.cut hx hl (n - 1) (by omega) hc hcm) (by rw [List.length_take]; omega))
  unfold maxLen at hcm
  have e1 : ((n : Int) - 1) = ((n - 1 : Nat) : Int) := by omega
  go_enter Try.func14, Try.ntmps14
  go_wp2_with (fail)
  refine ha.out.mono ?_
  rintro e w1 ⟨v, rfl, hs, -, hu⟩
  go_wp2
  go_ret2
  exact ⟨v, rfl, hs, hu⟩
theorem pop_any (v : Value) (xs : List Int) (w : World) (hx : Sl w v xs) (hb : xs.length ≤ 17592186044416) : Calls Try.prog 14 #[v] w (RePost (pos xs) (poe xs) w) := by
  have hx0 := hx
  obtain ⟨A, c, rfl, h1, h2, h3, hr⟩ := hx
  unfold pos poe
  by_cases h : xs = []
  · subst h
    exact pop_none A c w hx0
  · rw [if_neg h]
    have hp : 0 < xs.length := List.length_pos_iff.2 h
    obtain ⟨p, rfl, hw⟩ := hr.2 hp
    exact pop_some p _ c xs w hw rfl hp h1 h2 hb
theorem rpop_none (A : Option Addr) (c : Nat) (w : World) (hx : Sl w (.slice A 0 c) []) : Calls Try.prog 15 #[.slice A 0 c] w (RePost [] 9 w) := by
  go_enter Try.func15, Try.ntmps15
  go_wp2
  go_ret2
  exact ⟨_, rfl, hx, Up.refl _⟩
theorem rpop_one (p : Addr) (c : Nat) (w : World) (hc : 1 ≤ c) (hcm : c ≤ maxLen) : Calls Try.prog 15 #[.slice (some p) 1 c] w (RePost [] 0 w) := by
  have hl : Lo (w.alloc (.cells #[] 23)) w.heap.size (.slice (some ⟨w.heap.size, 0, none⟩) 0 0) [] := lo_empty (Blk.new w _ _) (Nat.le_refl _)
  unfold maxLen at hcm
  go_enter Try.func15, Try.ntmps15
  go_wp2_with (at_builtin; refine wpList_nothing rfl _ _ rfl _ _ _ rfl rfl ?_)
  go_ret2
  exact ⟨_, rfl, Sl.of_lo hl, (Up.refl w).alloc _⟩
theorem rpop_some (p : Addr) (n c : Nat) (xs : List Int) (w : World) (hx : Row w p xs) (hl : xs.length = n) (hp : 1 < n) (hc : n ≤ c) (hcm : c ≤ maxLen) (hb : n ≤ 17592186044416) : Calls Try.prog 15 #[.slice (some p) n c] w (RePost (xs.take (n - 1)) 0 w) := by
  have hd : ((n : Int) == 0) = false := beq_eq_false_iff_ne.2 (by omega)
  have U1 := (Up.refl w).alloc (.cells #[] 23)
  have ht := (Rd.take (Rd.of_row hx hl) (k := n - 1) (by omega)).up U1
  obtain ⟨p', e, hr⟩ := ht.2 (by omega)
  obtain rfl : p = p' := by injection e
  have hrl := ht.1
  unfold maxLen at hcm
  have e1 : ((n : Int) - 1) = ((n - 1 : Nat) : Int) := by omega
  clear ht hx hl
  go_enter Try.func15, Try.ntmps15
  go_wp2_with (at_builtin; refine wpList_more rfl _ _ rfl _ [] 0 rfl ⟨rfl, fun q => absurd q (by simp)⟩ p _ (n - 1) c rfl hrl hr (by omega) (by omega) ?_; intro v' w' hown hup)
  go_ret2
  exact ⟨_, rfl, Sl.of_lo hown, U1.trans hup⟩
theorem rpop_any (v : Value) (xs : List Int) (w : World) (hx : Sl w v xs) (hb : xs.length ≤ 17592186044416) : Calls Try.prog 15 #[v] w (RePost (pos xs) (poe xs) w) := by
  have hx0 := hx
  obtain ⟨A, c, rfl, h1, h2, h3, hr⟩ := hx
  unfold pos poe
  by_cases h : xs = []
  · subst h
    exact rpop_none A c w hx0
  · rw [if_neg h]
    have hp : 0 < xs.length := List.length_pos_iff.2 h
    obtain ⟨p, rfl, hw⟩ := hr.2 hp
    by_cases h2 : xs.length = 1
    · rw [h2]
      rw [h2] at h1
      exact rpop_one p c w h1 (by assumption)
    · exact rpop_some p _ c xs w hw rfl (by omega) h1 (by assumption) hb
end Go.Proofs.Ytpbbbgcafphplaa
