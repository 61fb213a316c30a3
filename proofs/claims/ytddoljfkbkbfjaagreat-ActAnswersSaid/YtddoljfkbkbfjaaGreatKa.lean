/- Rows of words, and rows of such rows, the document's All: contracts. -/
import Derived.Test.YtddoljfkbkbfjaaGreatAj
import Derived.WalkKit
import Derived.ProofKit
import Derived.OpenShut
import Derived.WalkLawsBesides
import Derived.Lib.Hide
import Derived.Laws.StructEq
import Derived.Laws.MathBits
import Derived.Laws.Rows
import Derived.LoopN
import Derived.Below
import Derived.Deep.Draws
import Derived.Deep.OwnRows
import Derived.StillTailTactics
import Derived.ScopeJumps
import Derived.Laws.CopyOwn
import Derived.Laws.OwnMore
import Derived.Laws.EntriesVeiled
import Derived.Deep.AppendLies
import Derived.Deep.RegionLaw
import Derived.Deep.RegionHeld3
import Derived.Deep.QuietTactic
import Derived.Deep.Slices
import Derived.BigQuiet
import Derived.RangeFuncBox
import Derived.RangeFuncNested
import Derived.RangeFuncBound
import Derived.RangeFuncCalls
import Derived.RangeFuncLeaves
import Derived.RangeFuncWrites
import Derived.Shelf.Abstract
import Derived.OwnWalkIn
import Derived.TacticsInMore
import Derived.LoopNIn
import Derived.LoopIn
import Derived.Maps.AppendAt
import Derived.Maps.OwnIn
import Derived.Maps.OwnSet
import Derived.Maps.Own
import Derived.Maps.Views
import Derived.Lib.Small
import Derived.Lib.Walk
import Derived.Carry
import Derived.WideKeyArgs
import Derived.ChangeArms
import Derived.Lib.SmallJoins
import Derived.ArgAppend
import Derived.Deep.Matrix
import Derived.SizedLaws
/-! Of stage 9 -/
namespace Go.Proofs.YtddoljfkbkbfjaaGreat.K
open Go.ChangeShapes Go.WideShapes Go.ChangeAt Go.RowKit
set_option linter.unusedVariables false

theorem u64_of_wf {a : Int} (h : (Lit.int .u64 a).wf = true) : U64 a := by
  have e : IntKind.u64.min = 0 := by decide
  have e2 : IntKind.u64.max = 18446744073709551615 := by decide
  simp [Lit.wf, e, e2] at h
  unfold U64
  omega

end Go.Proofs.YtddoljfkbkbfjaaGreat.K
/-! Of stage 9 -/
namespace Go.Proofs.YtddoljfkbkbfjaaGreat.K
open Go.Joins Go.ChangeShapes Go.WideShapes Go.ChangeAt Go.RowKit Go.Deep Go.Shelf Go.Maps
set_option linter.unusedVariables false
set_option linter.unusedSimpArgs false
attribute [local go_sem] Oper.semAt_some

theorem law64 : Keyed Tryz.prog 54 := int_keyed Tryz.underlying54
theorem rd_two {w : World} {n₀ : Nat} {v : Value} {x y : Int} (h : Lo w n₀ v [x, y]) : ∃ g cap, v = .slice (some ⟨g, 0, none⟩) 2 cap ∧ Row w ⟨g, 0, none⟩ [x, y] := by
  obtain ⟨g, cap, rfl⟩ := ownsRow_succ (k := 1) h
  have hr := h.rd.2 (by simp)
  obtain ⟨p, e, hw⟩ := hr
  cases e
  exact ⟨g, cap, rfl, hw⟩
theorem rd_one {w : World} {n₀ : Nat} {v : Value} {x : Int} (h : Lo w n₀ v [x]) : ∃ g cap, v = .slice (some ⟨g, 0, none⟩) 1 cap ∧ Row w ⟨g, 0, none⟩ [x] := by
  obtain ⟨g, cap, rfl⟩ := ownsRow_succ (k := 0) h
  have hr := h.rd.2 (by simp)
  obtain ⟨p, e, hw⟩ := hr
  cases e
  exact ⟨g, cap, rfl, hw⟩
theorem lo_empty {V : World} {g n₀ : Nat} (h : Blk V g 54 #[]) (hb : n₀ ≤ g) : Lo V n₀ (.slice (some ⟨g, 0, none⟩) 0 0) [] := ⟨rfl, .inr ⟨g, 0, #[], rfl, hb, h, Nat.le_refl _, Nat.zero_le _, rfl, rfl⟩⟩
theorem _root_.Go.Proofs.YtddoljfkbkbfjaaGreat.Lo.nil_sl {w : World} {n₀ : Nat} {v : Value} (h : Lo w n₀ v []) : ∃ A cap, v = .slice A 0 cap := by
  obtain ⟨A, cap, e, _⟩ := h.sl
  exact ⟨A, cap, e⟩

end Go.Proofs.YtddoljfkbkbfjaaGreat.K
/-! Of stage 9 -/
namespace Go.Proofs.YtddoljfkbkbfjaaGreat.K
open Go.Joins Go.ChangeShapes Go.WideShapes Go.ChangeAt Go.RowKit Go.Deep Go.Shelf Go.Maps
set_option linter.unusedVariables false
set_option linter.unusedSimpArgs false

/-- A slice of words. -/
def Sl (w : World) (v : Value) (xs : List Int) : Prop := ∃ A c, v = .slice A xs.length c ∧ xs.length ≤ c ∧ c ≤ maxLen ∧ (A = none → c = 0) ∧ Rd w A xs.length xs
theorem Sl.up {w w' : World} {v : Value} {xs : List Int} (h : Sl w v xs) (k : Up w w') : Sl w' v xs := by
  obtain ⟨A, c, e, h1, h2, h3, h4⟩ := h
  exact ⟨A, c, e, h1, h2, h3, h4.up k⟩
theorem Sl.of_lo {w : World} {n₀ : Nat} {v : Value} {xs : List Int} (h : Lo w n₀ v xs) : Sl w v xs := by
  obtain ⟨A, c, e, h1, h2, h3⟩ := h.sl
  refine ⟨A, c, e, h1, h2, fun q => ?_, h3⟩
  subst q
  obtain ⟨-, hc⟩ := h
  rcases hc with ⟨rfl, h0⟩ | ⟨g, cap, cur, rfl, _⟩
  · rw [h0] at e; cases e; rfl
  · cases e
theorem Sl.nil (w : World) : Sl w (.slice none 0 0) [] := ⟨none, 0, rfl, Nat.le_refl _, Nat.zero_le _, fun _ => rfl, rfl, fun q => absurd q (by simp)⟩
theorem Sl.rd {w : World} {A : Option Addr} {n c : Nat} {xs : List Int} (h : Sl w (.slice A n c) xs) : Rd w A n xs := by
  obtain ⟨A', c', e, _, _, _, h4⟩ := h
  cases e
  exact h4
theorem Sl.len {w : World} {A : Option Addr} {n c : Nat} {xs : List Int} (h : Sl w (.slice A n c) xs) : xs.length = n := h.rd.1
theorem Sl.max {w : World} {v : Value} {xs : List Int} (h : Sl w v xs) : xs.length ≤ maxLen := by
  obtain ⟨A, c, e, h1, h2, _⟩ := h
  omega

/-- Which one, and why none. -/
def gte (xs : List Int) (h : Int) : Int := if 0 ≤ h ∧ h < xs.length then 0 else 5
def gtv (xs : List Int) (h : Int) : Int := if 0 ≤ h ∧ h < xs.length then xs.getD h.toNat 0 else 0
def rle (xs : List Int) (h : Int) : Int := if gte xs h = 0 then (if gtv xs h = 0 then 6 else 0) else 5
abbrev GetPost (x e : Int) (w : World) (en : Ending) (w' : World) : Prop := en = .returned (.tuple #[.int .u64 x, .int .i64 e]) ∧ Up w w'

theorem get_lt (A : Option Addr) (k c : Nat) (h : Int) (w : World) (h0 : h < 0) : Calls Tryz.prog 106 #[.slice A k c, .int .i64 h] w (GetPost 0 5 w) := by
  have d0 : decide (h < 0) = true := decide_eq_true h0
  go_enter Tryz.func106, Tryz.ntmps106
  go_wp2
  go_ret2
  exact ⟨rfl, Up.refl _⟩
theorem get_ge (A : Option Addr) (k c : Nat) (h : Int) (w : World) (h0 : 0 ≤ h) (h1 : (k : Int) ≤ h) : Calls Tryz.prog 106 #[.slice A k c, .int .i64 h] w (GetPost 0 5 w) := by
  have d0 : decide (h < 0) = false := decide_eq_false (by omega)
  have d1 : decide ((k : Int) ≤ h) = true := decide_eq_true h1
  go_enter Tryz.func106, Tryz.ntmps106
  go_wp2
  go_ret2
  exact ⟨rfl, Up.refl _⟩
theorem get_in (A : Option Addr) (k c : Nat) (xs : List Int) (x : Nat) (w : World) (hx : Rd w A k xs) (h1 : x < k) (hk : k ≤ maxLen) : Calls Tryz.prog 106 #[.slice A k c, .int .i64 x] w (GetPost (xs.getD x 0) 0 w) := by
  obtain ⟨p, rfl, hc⟩ := hx.at_ h1
  have d0 : decide ((x : Int) < 0) = false := decide_eq_false (by omega)
  have d1 : decide ((k : Int) ≤ x) = false := decide_eq_false (by omega)
  unfold maxLen at hk
  clear hx
  generalize xs.getD x 0 = u at hc
  go_enter Tryz.func106, Tryz.ntmps106
  go_wp2
  go_ret2
  exact ⟨rfl, Up.refl _⟩
theorem get_any (v : Value) (xs : List Int) (h : Int) (w : World) (hx : Sl w v xs) : Calls Tryz.prog 106 #[v, .int .i64 h] w (GetPost (gtv xs h) (gte xs h) w) := by
  have hm := hx.max
  obtain ⟨A, c, rfl, -, -, -, hr⟩ := hx
  unfold gtv gte
  by_cases h0 : h < 0
  · rw [if_neg (by omega), if_neg (by omega)]
    exact get_lt A _ c h w h0
  by_cases h1 : h < xs.length
  · rw [if_pos (by omega), if_pos (by omega)]
    obtain ⟨x, rfl⟩ : ∃ x : Nat, h = x := ⟨h.toNat, by omega⟩
    exact get_in A _ c xs x w hr (by omega) hm
  · rw [if_neg (by omega), if_neg (by omega)]
    exact get_ge A _ c h w (by omega) (by omega)

set_option maxRecDepth 100000 in
set_option maxHeartbeats 1000000 in
theorem real_any (v : Value) (xs : List Int) (h : Int) (w : World) (hx : Sl w v xs) : Calls Tryz.prog 95 #[v, .int .i64 h] w (GetPost (gtv xs h) (rle xs h) w) := by
  have hg := Lib.hid (fun w' (k : Up w w') => get_any v xs h w' (hx.up k))
  have H0 : gte xs h ≠ 0 → gtv xs h = 0 := by
    unfold gte gtv
    intro q
    split at q
    · exact absurd rfl q
    · rename_i k; exact if_neg k
  have H5 : gte xs h ≠ 0 → gte xs h = 5 := by
    unfold gte
    intro q
    split at q
    · exact absurd rfl q
    · rename_i k; exact if_neg k
  obtain ⟨A, c, rfl, -⟩ := hx
  unfold rle
  generalize xs.length = n at hg ⊢
  by_cases he : gte xs h = 0
  · rw [if_pos he]
    clear H5 H0
    generalize gtv xs h = u at hg
    rw [he] at hg
    clear he
    by_cases hu : u = 0
    · subst hu
      rw [if_pos rfl]
      go_enter Tryz.func95, Tryz.ntmps95
      go_wp2_with (fail)
      refine (hg.out _ (Up.refl _)).mono ?_
      rintro e w1 ⟨rfl, k1⟩
      go_wp2
      go_ret2
      exact ⟨rfl, k1⟩
    · rw [if_neg hu]
      have hb : (u == 0) = false := beq_eq_false_iff_ne.2 hu
      clear hu
      go_enter Tryz.func95, Tryz.ntmps95
      go_wp2_with (fail)
      refine (hg.out _ (Up.refl _)).mono ?_
      rintro e w1 ⟨rfl, k1⟩
      go_wp2
      go_ret2
      exact ⟨rfl, k1⟩
  · rw [if_neg he, H0 he]
    rw [H0 he, H5 he] at hg
    clear he H0 H5
    go_enter Tryz.func95, Tryz.ntmps95
    go_wp2_with (fail)
    refine (hg.out _ (Up.refl _)).mono ?_
    rintro e w1 ⟨rfl, k1⟩
    go_wp2
    go_ret2
    exact ⟨rfl, k1⟩

theorem words_any' (u v : Value) (xs ys : List Int) (w : World) (hx : Sl w u xs) (hy : Sl w v ys) :
    Calls Tryz.prog 51 #[u, v] w fun e w' => e = .returned (.bool (decide (xs = ys))) ∧ Up w w' := by
  have hm := hx.max
  obtain ⟨A, c, rfl, -, -, -, hr⟩ := hx
  obtain ⟨B, d, rfl, -, -, -, hs⟩ := hy
  exact rwords_any A B _ _ c d xs ys w hr hs hm
theorem has_any (v : Value) (xs : List Int) (a : Int) (w : World) (hx : Sl w v xs) :
    Calls Tryz.prog 61 #[v, .int .u64 a] w fun e w' => e = .returned (.bool (decide (a ∈ xs))) ∧ Up w w' := by
  have hm := hx.max
  obtain ⟨A, c, rfl, -, -, -, hr⟩ := hx
  exact (rhas_any A _ c xs a w hr hm).mono fun e w' h => ⟨h.1, by rw [← h.2]; exact Up.refl _⟩


end Go.Proofs.YtddoljfkbkbfjaaGreat.K
/-! Of stage 9 -/
namespace Go.Proofs.YtddoljfkbkbfjaaGreat.K
open Go.Joins Go.ChangeShapes Go.WideShapes Go.ChangeAt Go.RowKit Go.Deep Go.Shelf Go.Maps
set_option linter.unusedVariables false
set_option linter.unusedSimpArgs false

/-- An append of nothing onto nothing. -/
theorem run_nothing (A B : Option Addr) (c : Nat) (ty : TypeId) (w : World) : (Builtin.append_ #[22, 22] ty #[.slice A 0 0, .slice B 0 c]).run Tryz.prog w = .ok (.slice A 0 0) w := by
  obtain ⟨i0, hi, hz0, hz1, hz2⟩ := info_parts info_u64
  cases A <;> cases B <;> simp [Builtin.append_, run_underlying Tryz.underlying22, sizeOf, typeInfo, hi, Builtin.lenOf, Builtin.firstCells, loadCells, loadCellsFrom, storeCells]
theorem wpList_nothing {w : World} {ops : Array Oper} {rest : List Oper} {o : Oper} {a : Act} {Q : Exit → Act → World → Prop} (hgd : o.guard = none) (s x : Operand)
    (ho : o.op = .call { callee := .builtin .append, args := #[s, x], argTypes := #[22, 22] })
    (A B : Option Addr) (c : Nat) (hs : a.eval s = .slice A 0 0) (hx : a.eval x = .slice B 0 c)
    (h : wpList Tryz.prog ops Q rest (a.put o.dst (.slice A 0 0)) w) : wpList Tryz.prog ops Q (o :: rest) a w := by
  refine wpList_plain hgd fun K hK => ?_
  unfold Oper.wp execOp
  simp only [ho, resolve, invoke, builtin, Sem.run_bind, Sem.run_pure, Result.andThen_ok, List.map_toArray, List.map_cons, List.map_nil, hs, hx, run_nothing]
  exact hK _ _ h
/-- A row of its own, of as many words as it is cut to, takes more: it moves to a new block. -/
theorem wpList_more {w : World} {ops : Array Oper} {rest : List Oper} {o : Oper} {a : Act} {Q : Exit → Act → World → Prop} (hgd : o.guard = none) (s x : Operand)
    (ho : o.op = .call { callee := .builtin .append, args := #[s, x], argTypes := #[22, 22] })
    (A : Option Addr) (xs : List Int) (n : Nat) (hs : a.eval s = .slice A n n) (hx : Rd w A n xs)
    (p : Addr) (ys : List Int) (m c : Nat) (hy : a.eval x = .slice (some p) m c) (hyl : ys.length = m) (hyr : Row w p ys) (hp : 0 < m) (hb : n + m ≤ 17592186044416)
    (h : ∀ v' w', Lo w' w.heap.size v' (xs ++ ys) → Up w w' → wpList Tryz.prog ops Q rest (a.put o.dst v') w') : wpList Tryz.prog ops Q (o :: rest) a w := by
  subst hyl
  have hxl := hx.1
  subst hxl
  obtain ⟨i0, hi, hz0, hz1, hz2⟩ := info_parts info_u64
  refine wpList_append_grows w hgd s x _ ho 54 i0 (.int .u64 0) 1 8 Tryz.underlying22 hi hz0 hz1 hz2 rfl (by decide) A _ _ (wds xs) hs (fun e => ?_) (by simp [len_wds]) (fun b e j u hj => ?_) p _ c (wds ys) hy (by simp [len_wds]) hyr.src (one_wds ys) (by omega) (by unfold maxLen; omega) (by omega) ?_
  · have : xs.length = 0 := by
      rcases Nat.eq_zero_or_pos xs.length with q | q
      · exact q
      · obtain ⟨p, e2, _⟩ := hx.2 q
        rw [e] at e2
        cases e2
    exact ⟨this, this⟩
  · have hl : 0 < xs.length := by
      rcases Nat.eq_zero_or_pos xs.length with q | q
      · rw [List.eq_nil_of_length_eq_zero q] at hj
        cases hj
      · exact q
    obtain ⟨p', e2, hr⟩ := hx.2 hl
    rw [e] at e2
    cases e2
    exact hr.src j u hj
  · intro v' w' ho' hg
    refine h v' w' ?_ (Up.grown (Up.refl w) hg (fun k e => by cases e))
    unfold Lo
    rw [List.length_append, show wds (xs ++ ys) = wds xs ++ wds ys from by simp [wds]]
    exact ho'

/-- A row comes: of its own, where it holds anything. -/
def AnPost (xs : List Int) (w : World) (e : Ending) (w' : World) : Prop := ∃ v, e = .returned v ∧ Sl w' v xs ∧ (xs ≠ [] → Lo w' w.heap.size v xs) ∧ Up w w'
/-- A row and an error come. -/
def RePost (xs : List Int) (er : Int) (w : World) (e : Ending) (w' : World) : Prop := ∃ v, e = .returned (.tuple #[v, .int .i64 er]) ∧ Sl w' v xs ∧ Up w w'

theorem anew_nil (v : Value) (w : World) (hx : Sl w v []) : Calls Tryz.prog 135 #[v] w (AnPost [] w) := by
  obtain ⟨A, c, rfl, -, -, hA, -⟩ := hx
  go_enter Tryz.func135, Tryz.ntmps135
  cases A
  · obtain rfl := hA rfl
    go_wp2_with (at_builtin; refine wpList_nothing rfl _ _ rfl _ _ _ rfl rfl ?_)
    go_ret
    exact ⟨_, rfl, ⟨none, _, rfl, Nat.le_refl _, Nat.zero_le _, fun _ => rfl, rfl, fun q => absurd q (by simp)⟩, fun q => absurd rfl q, Up.refl _⟩
  · clear hA
    go_wp2_with (at_builtin; refine wpList_nothing rfl _ _ rfl _ _ _ rfl rfl ?_)
    go_ret
    exact ⟨_, rfl, ⟨some _, 0, rfl, Nat.le_refl _, Nat.zero_le _, fun q => (by cases q), rfl, fun q => absurd q (by simp)⟩, fun q => absurd rfl q, Up.refl _⟩
theorem anew_cons (p : Addr) (n c : Nat) (xs : List Int) (w : World) (hr : Row w p xs) (hl : xs.length = n) (hp : 0 < n) (hb : n ≤ 17592186044416) : Calls Tryz.prog 135 #[.slice (some p) n c] w (AnPost xs w) := by
  go_enter Tryz.func135, Tryz.ntmps135
  go_wp2_with (at_builtin; refine wpList_more rfl _ _ rfl _ [] 0 rfl ⟨rfl, fun q => absurd q (by simp)⟩ p xs n c rfl hl hr hp (by omega) ?_; intro v' w' hown hup)
  go_ret
  exact ⟨_, rfl, Sl.of_lo hown, fun _ => hown, hup⟩
theorem anew_any (v : Value) (xs : List Int) (w : World) (hx : Sl w v xs) (hb : xs.length ≤ 17592186044416) : Calls Tryz.prog 135 #[v] w (AnPost xs w) := by
  by_cases h : xs = []
  · subst h
    exact anew_nil v w hx
  · obtain ⟨A, c, rfl, -, -, -, hr⟩ := hx
    have hp : 0 < xs.length := List.length_pos_iff.2 h
    obtain ⟨p, rfl, hw⟩ := hr.2 hp
    exact anew_cons p _ c xs w hw rfl hp hb

/-- What is pushed. -/
def pus (xs : List Int) (a : Int) : List Int := if xs.length < 16 then xs ++ [a] else xs
def pue (xs : List Int) : Int := if xs.length < 16 then 0 else 4
theorem push_full (A : Option Addr) (n c : Nat) (xs : List Int) (a : Int) (w : World) (hx : Sl w (.slice A n c) xs) (h : 16 ≤ n) : Calls Tryz.prog 105 #[.slice A n c, .int .u64 a] w (RePost xs 4 w) := by
  have hd : decide ((16 : Int) ≤ n) = true := decide_eq_true (by omega)
  go_enter Tryz.func105, Tryz.ntmps105
  go_wp2
  go_ret2
  exact ⟨_, rfl, hx, Up.refl _⟩
theorem push_ok (A : Option Addr) (n c : Nat) (xs : List Int) (a : Int) (w : World) (hx : Rd w A n xs) (hn : A = none → n = 0 ∧ c = 0) (hc : n ≤ c) (hcm : c ≤ maxLen) (h : n < 16) : Calls Tryz.prog 105 #[.slice A n c, .int .u64 a] w (RePost (xs ++ [a]) 0 w) := by
  have hd : decide ((16 : Int) ≤ n) = false := decide_eq_false (by omega)
  unfold maxLen at hcm
  go_enter Tryz.func105, Tryz.ntmps105
  cases A
  · obtain ⟨rfl, rfl⟩ := hn rfl
    go_wp2_with (at_builtin; refine wpList_more rfl _ _ rfl none xs 0 rfl (hx.up ((Up.refl w).alloc _)) ⟨w.heap.size, 0, none⟩ [a] 1 1 rfl rfl (Blk.row (xs := [a]) (Blk.new w _ _)) (by omega) (by omega) ?_; intro v' w' hown hup)
    go_ret2
    exact ⟨_, rfl, Sl.of_lo hown, ((Up.refl w).alloc _).trans hup⟩
  · clear hn
    go_wp2_with (at_builtin; refine wpList_more rfl _ _ rfl (some _) xs n rfl (hx.up ((Up.refl w).alloc _)) ⟨w.heap.size, 0, none⟩ [a] 1 1 rfl rfl (Blk.row (xs := [a]) (Blk.new w _ _)) (by omega) (by omega) ?_; intro v' w' hown hup)
    go_ret2
    exact ⟨_, rfl, Sl.of_lo hown, ((Up.refl w).alloc _).trans hup⟩
theorem push_any (v : Value) (xs : List Int) (a : Int) (w : World) (hx : Sl w v xs) : Calls Tryz.prog 105 #[v, .int .u64 a] w (RePost (pus xs a) (pue xs) w) := by
  have hx0 := hx
  obtain ⟨A, c, rfl, h1, h2, h3, hr⟩ := hx
  unfold pus pue
  by_cases h : xs.length < 16
  · rw [if_pos h, if_pos h]
    refine push_ok A _ c xs a w hr (fun e => ?_) h1 h2 h
    have := h3 e
    omega
  · rw [if_neg h, if_neg h]
    exact push_full A _ c xs a w hx0 (by omega)
/-- A row of the call's own takes more. -/
theorem wpList_own {w : World} {ops : Array Oper} {rest : List Oper} {o : Oper} {a : Act} {Q : Exit → Act → World → Prop} (hgd : o.guard = none) (s x : Operand)
    (ho : o.op = .call { callee := .builtin .append, args := #[s, x], argTypes := #[22, 22] })
    (n₀ : Nat) (v : Value) (xs : List Int) (hs : a.eval s = v) (hx : Lo w n₀ v xs)
    (p : Addr) (ys : List Int) (m c : Nat) (hy : a.eval x = .slice (some p) m c) (hyl : ys.length = m) (hyr : Row w p ys) (hp : 0 < m) (hb : xs.length + m ≤ 17592186044416) (hbase : n₀ ≤ w.heap.size)
    (h : ∀ g cap w', Lo w' n₀ (.slice (some ⟨g, 0, none⟩) (xs.length + m) cap) (xs ++ ys) → w.grownBy w' v.ownBlock → wpList Tryz.prog ops Q rest (a.put o.dst (.slice (some ⟨g, 0, none⟩) (xs.length + m) cap)) w') : wpList Tryz.prog ops Q (o :: rest) a w := by
  subst hyl
  obtain ⟨i0, hi, hz0, hz1, hz2⟩ := info_parts info_u64
  refine wpList_append_own_at w hgd s x _ ho n₀ 54 i0 (.int .u64 0) 1 8 Tryz.underlying22 hi hz0 hz1 hz2 rfl (by decide) v _ (wds xs) hs hx p _ c (wds ys) hy (by simp [len_wds]) hyr.src (one_wds ys) (by unfold maxLen; omega) (by omega) hbase ?_
  intro v' w' ho' hg _ _
  obtain ⟨k, hk⟩ : ∃ k, xs.length + ys.length = k + 1 := ⟨xs.length + ys.length - 1, by omega⟩
  rw [hk] at ho'
  obtain ⟨g', cap', rfl⟩ := ownsRow_succ ho'
  rw [← hk] at ho' ⊢
  refine h g' cap' w' ?_ hg
  unfold Lo
  rw [List.length_append, show wds (xs ++ ys) = wds xs ++ wds ys from by simp [wds]]
  exact ho'
theorem _root_.Go.Proofs.YtddoljfkbkbfjaaGreat.Up.own {W w w' : World} {v : Value} {xs : List Int} (h : Up W w) (hx : Lo w W.heap.size v xs) (hg : w.grownBy w' v.ownBlock) : Up W w' := h.grown hg (fun k e => (World.ownsRow.lt hx k e).1)

/-- What is left behind a pop. -/
def pos (xs : List Int) : List Int := xs.take (xs.length - 1)
def poe (xs : List Int) : Int := if xs = [] then 9 else 0
theorem pop_none (A : Option Addr) (c : Nat) (w : World) (hx : Sl w (.slice A 0 c) []) : Calls Tryz.prog 107 #[.slice A 0 c] w (RePost [] 9 w) := by
  go_enter Tryz.func107, Tryz.ntmps107
  go_wp2
  go_ret2
  exact ⟨_, rfl, hx, Up.refl _⟩
theorem Sl.cut {w : World} {p : Addr} {n c : Nat} {xs : List Int} (hx : Row w p xs) (hl : xs.length = n) (k : Nat) (hk : k ≤ n) (hc : n ≤ c) (hcm : c ≤ maxLen) : Sl w (.slice (some p) k c) (xs.take k) := by
  have hl2 : (xs.take k).length = k := by rw [List.length_take]; omega
  exact ⟨some p, c, by rw [hl2], by omega, hcm, fun q => (by cases q), by rw [hl2]; exact Rd.take (Rd.of_row hx hl) hk⟩
theorem pop_some (p : Addr) (n c : Nat) (xs : List Int) (w : World) (hx : Row w p xs) (hl : xs.length = n) (hp : 0 < n) (hc : n ≤ c) (hcm : c ≤ maxLen) (hb : n ≤ 17592186044416) : Calls Tryz.prog 107 #[.slice (some p) n c] w (RePost (xs.take (n - 1)) 0 w) := by
  have hd : ((n : Int) == 0) = false := beq_eq_false_iff_ne.2 (by omega)
  have ha := Lib.hid (anew_any _ _ w (Sl.cut hx hl (n - 1) (by omega) hc hcm) (by rw [List.length_take]; omega))
  unfold maxLen at hcm
  have e1 : ((n : Int) - 1) = ((n - 1 : Nat) : Int) := by omega
  go_enter Tryz.func107, Tryz.ntmps107
  go_wp2_with (fail)
  refine ha.out.mono ?_
  rintro e w1 ⟨v, rfl, hs, -, hu⟩
  go_wp2
  go_ret2
  exact ⟨v, rfl, hs, hu⟩
theorem pop_any (v : Value) (xs : List Int) (w : World) (hx : Sl w v xs) (hb : xs.length ≤ 17592186044416) : Calls Tryz.prog 107 #[v] w (RePost (pos xs) (poe xs) w) := by
  have hx0 := hx
  obtain ⟨A, c, rfl, h1, h2, h3, hr⟩ := hx
  unfold pos poe
  by_cases h : xs = []
  · subst h
    exact pop_none A c w hx0
  · rw [if_neg h]
    have hp : 0 < xs.length := List.length_pos_iff.2 h
    obtain ⟨p, rfl, hw⟩ := hr.2 hp
    exact pop_some p _ c xs w hw rfl hp h1 h2 hb

end Go.Proofs.YtddoljfkbkbfjaaGreat.K
/-! Of stage 9 -/
namespace Go.Proofs.YtddoljfkbkbfjaaGreat.K
open Go.Joins Go.ChangeShapes Go.WideShapes Go.ChangeAt Go.RowKit Go.Deep Go.Shelf Go.Maps
set_option linter.unusedVariables false
set_option linter.unusedSimpArgs false

/-- A slice of rows of words. -/
def Rw (w : World) (v : Value) (L : List (List Int)) : Prop := ∃ A c, v = .slice A L.length c ∧ L.length ≤ c ∧ c ≤ maxLen ∧ (A = none → c = 0) ∧
  (0 < L.length → ∃ p, A = some p ∧ p.block < w.heap.size ∧ ∀ j xs, L[j]? = some xs → ∃ u, w.cell? (p.add j) = some u ∧ Sl w u xs)
theorem Rw.up {w w' : World} {v : Value} {L : List (List Int)} (h : Rw w v L) (k : Up w w') : Rw w' v L := by
  obtain ⟨A, c, e, h1, h2, h3, h4⟩ := h
  refine ⟨A, c, e, h1, h2, h3, fun q => ?_⟩
  obtain ⟨p, e2, hp, h5⟩ := h4 q
  refine ⟨p, e2, Nat.lt_of_lt_of_le hp k.size, fun j xs hj => ?_⟩
  obtain ⟨u, hu, hs⟩ := h5 j xs hj
  exact ⟨u, (Below.cell k (by rw [block_of_add]; exact hp)).trans hu, hs.up k⟩
theorem Rw.at_ {w : World} {A : Option Addr} {n c x : Nat} {L : List (List Int)} (h : Rw w (.slice A n c) L) (hx : x < n) : ∃ p u, A = some p ∧ w.cell? (p.add x) = some u ∧ Sl w u (L.getD x []) := by
  obtain ⟨A', c', e, h1, h2, h3, h4⟩ := h
  cases e
  obtain ⟨p, e2, hp, h5⟩ := h4 (by omega)
  obtain ⟨u, hu, hs⟩ := h5 x L[x] (List.getElem?_eq_getElem hx)
  exact ⟨p, u, e2, hu, by simpa [List.getD, List.getElem?_eq_getElem hx] using hs⟩
theorem Rw.max {w : World} {v : Value} {L : List (List Int)} (h : Rw w v L) : L.length ≤ maxLen := by
  obtain ⟨A, c, e, h1, h2, _⟩ := h
  omega
/-- All words are words; all rows may be made again. -/
structure Fit (L : List (List Int)) : Prop where
  u : ∀ xs ∈ L, ∀ x ∈ xs, U64 x
  l : ∀ xs ∈ L, xs.length ≤ 17592186044416
  n : L.length ≤ 5864062014805
theorem getD_mem {α : Type} {L : List α} {x : Nat} (d : α) (h : x < L.length) : L.getD x d ∈ L := by simp [List.getD, List.getElem?_eq_getElem h]
theorem take_one {α : Type} {xs : List α} {x : Nat} (d : α) (h : x < xs.length) : xs.take (x + 1) = xs.take x ++ [xs.getD x d] := by
  rw [List.take_succ_eq_append_getElem h]
  simp [List.getD, List.getElem?_eq_getElem h]
theorem drop_one {α : Type} {xs : List α} {x : Nat} (d : α) (h : x < xs.length) : xs.drop x = xs.getD x d :: xs.drop (x + 1) := by
  rw [List.drop_eq_getElem_cons h]
  simp [List.getD, List.getElem?_eq_getElem h]

/-- Slices stand in a row. -/
def Slices (us : List Value) : Prop := ∀ u ∈ us, ∃ A n c, u = .slice A n c
theorem _root_.Go.Proofs.YtddoljfkbkbfjaaGreat.Row.apartS {w : World} {p : Addr} {xs : List Int} {G : Nat} {t : TypeId} {us : List Value} (h : Row w p xs) (hx : 0 < xs.length) (hb : Blk w G t us.toArray) (hu : Slices us) : p.block ≠ G := by
  intro e
  have hc := h.2 0 xs[0] (List.getElem?_eq_getElem hx)
  unfold Blk at hb
  unfold World.cell? at hc
  rw [block_of_add, e, hb] at hc
  simp only at hc
  split at hc
  · cases hc
  · simp only [List.getElem?_toArray] at hc
    obtain ⟨A, n, c, e2⟩ := hu _ (List.mem_of_getElem? hc)
    cases e2
theorem Sl.kpG {w w' : World} {v : Value} {xs : List Int} {G : Nat} {t : TypeId} {us : List Value} {S : List Nat} (h : Sl w v xs) (hb : Blk w G t us.toArray) (hu : Slices us) (k : Kp (G :: S) w w') (hS : ∀ s ∈ S, w.heap.size ≤ s) : Sl w' v xs := by
  obtain ⟨A, c, e, h1, h2, h3, h4, h5⟩ := h
  refine ⟨A, c, e, h1, h2, h3, h4, fun q => ?_⟩
  obtain ⟨p, e2, hr⟩ := h5 q
  refine ⟨p, e2, hr.kp k (fun hm => ?_)⟩
  rcases List.mem_cons.1 hm with r | r
  · exact hr.apartS q hb hu r
  · have := hS _ r
    have := hr.1
    omega
/-- A block of rows. -/
def Grid (w : World) (G : Nat) (us : List Value) (K : List (List Int)) : Prop := Blk w G 22 us.toArray ∧ us.length = K.length ∧ Slices us ∧ ∀ (j : Nat) (u : Value) (xs : List Int), us[j]? = some u → K[j]? = some xs → Sl w u xs
theorem Grid.up {w w' : World} {G : Nat} {us : List Value} {K : List (List Int)} (h : Grid w G us K) (k : Up w w') : Grid w' G us K :=
  ⟨h.1.up k, h.2.1, h.2.2.1, fun j u xs h1 h2 => (h.2.2.2 j u xs h1 h2).up k⟩
theorem Sl.slice {w : World} {v : Value} {xs : List Int} (h : Sl w v xs) : ∃ A n c, v = .slice A n c := by
  obtain ⟨A, c, e, _⟩ := h
  exact ⟨_, _, _, e⟩
theorem Slices.set {us : List Value} (h : Slices us) (x : Nat) {u : Value} (hu : ∃ A n c, u = .slice A n c) : Slices (us.set x u) := fun y hy => by
  rcases List.mem_or_eq_of_mem_set hy with q | q
  · exact h y q
  · rw [q]; exact hu
/-- A row of the grid is another one now; the row's own block may be written. -/
theorem Grid.put {w w' : World} {G x : Nat} {us : List Value} {K : List (List Int)} {u : Value} {xs : List Int} {S : List Nat} (h : Grid w G us K) (hb : Blk w' G 22 (us.set x u).toArray) (hu : Sl w' u xs) (k : Kp (G :: S) w w') (hS : ∀ s ∈ S, w.heap.size ≤ s) : Grid w' G (us.set x u) (K.set x xs) := by
  refine ⟨hb, by simp [h.2.1], h.2.2.1.set x hu.slice, fun j v ys hv hy => ?_⟩
  by_cases hj : j = x
  · subst hj
    have hl : j < us.length := by
      rcases Nat.lt_or_ge j us.length with q | q
      · exact q
      · rw [List.getElem?_eq_none (by simpa using q)] at hv; cases hv
    rw [List.getElem?_set_self hl] at hv
    rw [List.getElem?_set_self (by rw [← h.2.1]; exact hl)] at hy
    cases hv
    cases hy
    exact hu
  · rw [List.getElem?_set_ne (Ne.symm hj)] at hv hy
    exact (h.2.2.2 j v ys hv hy).kpG h.1 h.2.2.1 k hS
theorem info_words : (Tryz.prog.info? 22).map (fun i => (i.zero, i.size, i.bytes)) = some (some (.slice none 0 0), 1, 24) := by kernel_rfl
theorem made_rows (n : Nat) : madeCells #[.slice none 0 0] n = (List.replicate n (Value.slice none 0 0)).toArray := by
  apply Array.ext
  · simp [size_madeCells]
  · intro i h1 h2
    simp [madeCells, Nat.mod_one]
theorem make_rows (n : Nat) (hn : n ≤ 5864062014805) (w : World) :
    (Instr.makeSlice 52 (.int .i64 (n : Int)) (.int .i64 (n : Int))).run Tryz.prog w = .ok (.slice (some ⟨w.heap.size, 0, none⟩) n n) (w.alloc (.cells (List.replicate n (Value.slice none 0 0)).toArray 22)) := by
  have := run_make_row' (P := Tryz.prog) 52 22 (.slice none 0 0) 24 Tryz.underlying52 info_words rfl .i64 .i64 n (by omega) (by omega) w
  rw [made_rows] at this
  exact this
theorem Grid.made (w : World) (n : Nat) : Grid (w.alloc (.cells (List.replicate n (Value.slice none 0 0)).toArray 22)) w.heap.size (List.replicate n (Value.slice none 0 0)) (List.replicate n []) :=
  ⟨Blk.new _ _ _, by simp, fun u hu => by rw [List.eq_of_mem_replicate hu]; exact ⟨_, _, _, rfl⟩, fun j u xs h1 h2 => by
    rw [List.eq_of_mem_replicate (List.mem_of_getElem? h1), List.eq_of_mem_replicate (List.mem_of_getElem? h2)]
    exact Sl.nil _⟩
theorem Grid.rw {w : World} {G c : Nat} {us : List Value} {K : List (List Int)} (h : Grid w G us K) (h1 : K.length ≤ c) (h2 : c ≤ maxLen) : Rw w (.slice (some ⟨G, 0, none⟩) K.length c) K := by
  refine ⟨_, c, rfl, h1, h2, fun q => (by cases q), fun _ => ⟨_, rfl, h.1.lt, fun j xs hj => ?_⟩⟩
  have hl : j < us.length := by
    rw [h.2.1]
    rcases Nat.lt_or_ge j K.length with q | q
    · exact q
    · rw [List.getElem?_eq_none q] at hj; cases hj
  refine ⟨us[j], ?_, h.2.2.2 j _ xs (List.getElem?_eq_getElem hl) hj⟩
  have e := h.1.cell j
  rw [List.getElem?_toArray, List.getElem?_eq_getElem hl] at e
  rw [add_zero']
  exact e
theorem Grid.at_ {w : World} {G x : Nat} {us : List Value} {K : List (List Int)} (h : Grid w G us K) (hx : x < K.length) : ∃ u, us[x]? = some u ∧ w.cell? ⟨G, x, none⟩ = some u ∧ Sl w u (K.getD x []) := by
  have hl : x < us.length := by rw [h.2.1]; exact hx
  refine ⟨us[x], List.getElem?_eq_getElem hl, ?_, ?_⟩
  · have e := h.1.cell x
    rw [List.getElem?_toArray, List.getElem?_eq_getElem hl] at e
    exact e
  · have := h.2.2.2 x us[x] K[x] (List.getElem?_eq_getElem hl) (List.getElem?_eq_getElem hx)
    simpa [List.getD, List.getElem?_eq_getElem hx] using this
/-- What a turned address becomes. -/
def tof (fs ts : List Int) (a : Int) : Int := if a ∈ fs.take (min fs.length ts.length) then ts.getD ((fs.take (min fs.length ts.length)).idxOf a) 0 else a
theorem idx_lt {fs ts : List Int} {a : Int} (h : a ∈ fs.take (min fs.length ts.length)) : (fs.take (min fs.length ts.length)).idxOf a < ts.length := by
  have h1 := List.idxOf_lt_length_iff.2 h
  have h2 := List.length_take_le (min fs.length ts.length) fs
  omega
theorem tof_u64 {fs ts : List Int} (hu : ∀ x ∈ ts, U64 x) {a : Int} (ha : U64 a) : U64 (tof fs ts a) := by
  unfold tof
  split
  · rename_i h
    exact hu _ (getD_mem 0 (idx_lt h))
  · exact ha
def turned (fs ts : List Int) (L : List (List Int)) : List (List Int) := L.map fun xs => xs.map (tof fs ts)
theorem turned_fit {fs ts : List Int} {L : List (List Int)} (h : Fit L) (hu : ∀ x ∈ ts, U64 x) : Fit (turned fs ts L) := by
  refine ⟨fun xs hx x hxx => ?_, fun xs hx => ?_, by simpa [turned] using h.n⟩
  · obtain ⟨ys, hy, rfl⟩ := List.mem_map.1 hx
    obtain ⟨y, hyy, rfl⟩ := List.mem_map.1 hxx
    exact tof_u64 hu (h.u ys hy y hyy)
  · obtain ⟨ys, hy, rfl⟩ := List.mem_map.1 hx
    simpa using h.l ys hy
/-- Rows come. -/
def RwPost (L : List (List Int)) (w : World) (e : Ending) (w' : World) : Prop := ∃ v, e = .returned v ∧ Rw w' v L ∧ Up w w'

end Go.Proofs.YtddoljfkbkbfjaaGreat.K
/-! Of stage 9 -/
namespace Go.Proofs.YtddoljfkbkbfjaaGreat.K
open Go.Joins Go.ChangeShapes Go.WideShapes Go.ChangeAt Go.RowKit Go.Deep Go.Shelf Go.Maps
set_option linter.unusedVariables false
set_option linter.unusedSimpArgs false

theorem Sl.take {w : World} {A : Option Addr} {n c : Nat} {xs : List Int} (h : Sl w (.slice A n c) xs) (k : Nat) (hk : k ≤ n) : Sl w (.slice A k c) (xs.take k) := by
  obtain ⟨A', c', e, h1, h2, h3, h4⟩ := h
  cases e
  have hl2 : (xs.take k).length = k := by rw [List.length_take]; omega
  exact ⟨A, c, by rw [hl2], by omega, h2, h3, by rw [hl2]; exact Rd.take h4 hk⟩
/-- A slice is cut at its end, whatever its address. -/
theorem wpList_cut {w : World} {ops : Array Oper} {rest : List Oper} {o : Oper} {a : Act} {Q : Exit → Act → World → Prop} (hgd : o.guard = none) (s hi : Operand) (ho : o.op = .slice 22 s none (some hi) none)
    (A : Option Addr) (n c k : Nat) (hs : a.eval s = .slice A n c) (hh : a.eval hi = .int .i64 (k : Int)) (hk : k ≤ c) (hA : A = none → c = 0)
    (h : wpList Tryz.prog ops Q rest (a.put o.dst (.slice A k c)) w) : wpList Tryz.prog ops Q (o :: rest) a w := by
  refine wpList_plain hgd fun K hK => ?_
  obtain ⟨i0, hi0, hz0, hz1, hz2⟩ := info_parts info_u64
  have hel : Tryz.prog.elem 22 = 54 := by kernel_rfl
  have hu : Tryz.prog.underlying 22 = some (.slice (Tryz.prog.elem 22)) := by rw [hel]; exact Tryz.underlying22
  have e : (Instr.sliceAt 22 (.slice A n c) none (some (.int .i64 (k : Int))) none).run Tryz.prog w = .ok (.slice A k c) w := by
    rw [run_sliceAt_slice (h := hu), run_slice_h (ht := hu) (h0 := by omega) (h2 := by omega), hel]
    cases A
    · obtain rfl := hA rfl
      obtain rfl : k = 0 := by omega
      simp [sizeOf, typeInfo, hi0, sliced]
    · rename_i p
      have e0 : p.add 0 = p := Addr.add_zero' p
      simp [sizeOf, typeInfo, hi0, sliced, e0]
  unfold Oper.wp
  simp [execOp, ho, hs, hh, e, Result.andThen]
  exact hK _ _ h
/-- A row, the first h of which are turned. -/
def half (f : Int → Int) (xs : List Int) (h : Nat) : List Int := (xs.take h).map f ++ xs.drop h
theorem half_0 (f : Int → Int) (xs : List Int) : half f xs 0 = xs := by simp [half]
theorem half_all (f : Int → Int) (xs : List Int) : half f xs xs.length = xs.map f := by simp [half]
theorem half_len (f : Int → Int) (xs : List Int) (h : Nat) (k : h ≤ xs.length) : (half f xs h).length = xs.length := by simp [half]; omega
theorem half_step (f : Int → Int) (xs : List Int) {h : Nat} (k : h < xs.length) : half f xs (h + 1) = (half f xs h).set h (f (xs.getD h 0)) := by
  unfold half
  rw [take_one 0 k, drop_one 0 k, List.map_append, List.append_assoc]
  have hl : ((xs.take h).map f).length = h := by simp; omega
  rw [List.set_append_right _ _ (by omega), hl, Nat.sub_self]
  rfl
theorem half_same (f : Int → Int) (xs : List Int) {h : Nat} (k : h < xs.length) (e : f (xs.getD h 0) = xs.getD h 0) : half f xs (h + 1) = half f xs h := by
  unfold half
  rw [take_one 0 k, drop_one 0 k, List.map_append, List.append_assoc]
  simp only [List.map_cons, List.map_nil, e]
  rfl
/-- The rows, the first x of which are done. -/
def part (g : List Int → List Int) (L : List (List Int)) (x : Nat) : List (List Int) := (L.take x).map g ++ List.replicate (L.length - x) []
theorem part_0 (g : List Int → List Int) (L : List (List Int)) : part g L 0 = List.replicate L.length [] := by simp [part]
theorem part_all (g : List Int → List Int) (L : List (List Int)) : part g L L.length = L.map g := by simp [part]
theorem part_len (g : List Int → List Int) (L : List (List Int)) (x : Nat) (k : x ≤ L.length) : (part g L x).length = L.length := by simp [part]; omega
theorem part_step (g : List Int → List Int) (L : List (List Int)) {x : Nat} (k : x < L.length) : part g L (x + 1) = (part g L x).set x (g (L.getD x [])) := by
  unfold part
  have hl : ((L.take x).map g).length = x := by simp; omega
  rw [take_one [] k, List.map_append, List.append_assoc, List.set_append_right _ _ (by omega), hl, Nat.sub_self]
  obtain ⟨d, hd⟩ : ∃ d, L.length - x = d + 1 := ⟨L.length - x - 1, by omega⟩
  rw [hd, show L.length - (x + 1) = d from by omega, List.replicate_succ]
  rfl
/-- A store into an owned row of words. -/
theorem _root_.Go.Proofs.YtddoljfkbkbfjaaGreat.Lo.stored {w : World} {n₀ g k c : Nat} {xs : List Int} (h : Lo w n₀ (.slice (some ⟨g, 0, none⟩) k c) xs) (hk : xs.length = k) (j : Nat) (b : Int) : Lo (w.setCell ⟨g, j, none⟩ (.int .u64 b)) n₀ (.slice (some ⟨g, 0, none⟩) k c) (xs.set j b) := by
  subst hk
  have := (World.ownsRow.stored h j (.int .u64 b)).1
  unfold Lo
  rw [List.length_set, show wds (xs.set j b) = (wds xs).set j (.int .u64 b) from by simp [wds, List.map_set, wd]]
  exact this
theorem _root_.Go.Proofs.YtddoljfkbkbfjaaGreat.Lo.frozen {w : World} {n₀ g k c : Nat} {xs : List Int} (h : Lo w n₀ (.slice (some ⟨g, 0, none⟩) k c) xs) (hk : xs.length = k) (j : Nat) : w.frozen? ⟨g, j, none⟩ = false := by
  subst hk
  exact World.ownsRow.frozenAt h j
theorem grownBy_setAt (w : World) (G i : Nat) (u : Value) : w.grownBy (w.setCell ⟨G, i, none⟩ u) (some G) :=
  ⟨rfl, rfl, rfl, by simp, fun k _ hk => heap_setCell_other w ⟨G, i, none⟩ k u (fun e => hk (by simp [e]))⟩
theorem not_in {G b N : Nat} {S : List Nat} (hb : b < G) (hN : b < N) (hS : ∀ s ∈ S, N ≤ s) : b ∉ G :: S := fun q => by
  rcases List.mem_cons.1 q with r | r
  · omega
  · have := hS _ r
    omega
theorem ge_all {a G N : Nat} {S : List Nat} (hG : a ≤ G) (h : a ≤ N) (hS : ∀ s ∈ S, N ≤ s) : ∀ s ∈ G :: S, a ≤ s := fun s q => by
  rcases List.mem_cons.1 q with r | r
  · omega
  · have := hS _ r
    omega
theorem _root_.Go.Proofs.YtddoljfkbkbfjaaGreat.Up.cell {w w' : World} {a : Addr} {v : Value} (k : Up w w') (h : w.cell? a = some v) : w'.cell? a = some v := by
  have hl := lt_of_cell h
  exact (Below.cell k hl).trans h
def InRel (wb : World) (G n₀ k : Nat) (S : List Nat) (v1 : Value) (vs : List Value) (xs : List Int) (f : Int → Int) (i : Value) (wr : World) : Prop :=
  ∃ h : Nat, h ≤ k ∧ i = .int .i64 h ∧ Sl wr v1 (half f xs h) ∧ (xs ≠ [] → Lo wr n₀ v1 (half f xs h)) ∧ Blk wr G 22 vs.toArray ∧ Kp (G :: S) wb wr

end Go.Proofs.YtddoljfkbkbfjaaGreat.K
/-! Of stage 9 -/
namespace Go.Proofs.YtddoljfkbkbfjaaGreat.K
open Go.Joins Go.ChangeShapes Go.WideShapes Go.ChangeAt Go.RowKit Go.Deep Go.Shelf Go.Maps
set_option linter.unusedVariables false
set_option linter.unusedSimpArgs false

/-- What an address becomes, where the places from i on are those of a row. -/
def seek (ts : List Int) (a : Int) : List Int → Nat → Int
  | [], _ => a
  | f :: r, i => if f = a then (if i < ts.length then ts.getD i 0 else a) else seek ts a r (i + 1)
theorem seek_is (ts : List Int) (a : Int) : ∀ (l : List Int) (i : Nat), seek ts a l i = if a ∈ l ∧ i + l.idxOf a < ts.length then ts.getD (i + l.idxOf a) 0 else a
  | [], i => by simp [seek]
  | f :: r, i => by
    unfold seek
    by_cases h : f = a
    · subst h
      simp
    · rw [if_neg h, seek_is ts a r (i + 1)]
      have h1 : (f :: r).idxOf a = r.idxOf a + 1 := by rw [List.idxOf_cons, cond_eq_ite, if_neg (by simpa using h)]
      rw [h1, show i + 1 + r.idxOf a = i + (r.idxOf a + 1) from by omega]
      have : (a ∈ f :: r) ↔ a ∈ r := by simp [Ne.symm h]
      simp only [this]
theorem seek_tof (fs ts : List Int) (a : Int) : seek ts a fs 0 = tof fs ts a := by
  rw [seek_is]
  unfold tof
  have hi : a ∈ fs.take (min fs.length ts.length) → (fs.take (min fs.length ts.length)).idxOf a = fs.idxOf a := fun h => by
    have e := List.idxOf_append (l₁ := fs.take (min fs.length ts.length)) (l₂ := fs.drop (min fs.length ts.length)) (a := a)
    rw [List.take_append_drop, if_pos h] at e
    exact e.symm
  by_cases h : a ∈ fs.take (min fs.length ts.length)
  · rw [if_pos h, hi h, if_pos ⟨List.mem_of_mem_take h, by have := idx_lt h; rw [hi h] at this; omega⟩, Nat.zero_add]
  · rw [if_neg h, if_neg (fun q => h ?_)]
    have hl := List.idxOf_lt_length_iff.2 q.1
    have hg : fs[fs.idxOf a] = a := List.getElem_idxOf hl
    have : fs[fs.idxOf a]? = some a := by rw [List.getElem?_eq_getElem hl, hg]
    have h2 : (fs.take (min fs.length ts.length))[fs.idxOf a]? = some a := by
      rw [List.getElem?_take, if_pos (by have := q.2; omega)]
      exact this
    exact List.mem_of_getElem? h2
theorem seek_step (ts : List Int) (a : Int) (fs : List Int) {m : Nat} (h : m < fs.length) : seek ts a (fs.drop m) m = if fs.getD m 0 = a then (if m < ts.length then ts.getD m 0 else a) else seek ts a (fs.drop (m + 1)) (m + 1) := by
  rw [drop_one 0 h]
  rfl

/-- Rows of the call's own: each in words of its own. -/
def Own (w : World) (n₀ : Nat) (v : Value) (us : List Value) (K : List (List Int)) : Prop :=
  w.ownsRow n₀ 22 1 v us.length us ∧ us.length = K.length ∧ ∀ (j : Nat) (u : Value) (xs : List Int), us[j]? = some u → K[j]? = some xs → Lo w n₀ u xs
theorem Own.nil (w : World) (n₀ : Nat) : Own w n₀ (.slice none 0 0) [] [] := ⟨World.ownsRow_nil _ _ _ _, rfl, fun j u xs h => by cases h⟩
theorem Own.up {w w' : World} {n₀ : Nat} {v : Value} {us : List Value} {K : List (List Int)} (h : Own w n₀ v us K) (k : Up w w') : Own w' n₀ v us K :=
  ⟨World.ownsRow.kept h.1 k.gb (by
    cases e : v.ownBlock with
    | none => exact .inl rfl
    | some g => exact .inr (by simp)), h.2.1, fun j u xs h1 h2 => (h.2.2 j u xs h1 h2).up k⟩
theorem lo_ne_rows {w : World} {n₀ n₁ k : Nat} {u v : Value} {xs : List Int} {us : List Value} (h : Lo w n₀ u xs) (h' : w.ownsRow n₁ 22 1 v k us) : u.ownBlock = none ∨ u.ownBlock ≠ v.ownBlock := by
  rcases h.2 with ⟨rfl, _⟩ | ⟨g, cap, cur, rfl, _, hg, _⟩
  · exact .inl rfl
  · refine .inr (fun e => ?_)
    rcases h'.2 with ⟨rfl, _⟩ | ⟨g', cap', cur', rfl, _, hg', _⟩
    · simp [Value.ownBlock] at e
    · obtain rfl : g = g' := by simpa [Value.ownBlock] using e
      rw [hg] at hg'
      injection hg' with e2
      injection e2 with _ e3
      exact absurd e3 (by decide)
/-- One row more. -/
theorem Own.snoc {w w' : World} {n₀ : Nat} {v v' u : Value} {us : List Value} {K : List (List Int)} {xs : List Int} (h : Own w n₀ v us K) (hu : Lo w n₀ u xs) (hr : w'.ownsRow n₀ 22 1 v' (us.length + 1) (us ++ [u])) (hg : w.grownBy w' v.ownBlock) : Own w' n₀ v' (us ++ [u]) (K ++ [xs]) := by
  refine ⟨by simpa using hr, by simp [h.2.1], fun j y ys h1 h2 => ?_⟩
  by_cases hj : j < us.length
  · rw [List.getElem?_append_left hj] at h1
    rw [List.getElem?_append_left (by rw [← h.2.1]; exact hj)] at h2
    have hl := h.2.2 j y ys h1 h2
    exact World.ownsRow.kept hl hg (lo_ne_rows hl h.1)
  · rw [List.getElem?_append_right (by omega)] at h1
    rw [List.getElem?_append_right (by rw [← h.2.1]; omega), ← h.2.1] at h2
    obtain ⟨d, hd⟩ : ∃ d, j - us.length = d := ⟨_, rfl⟩
    rw [hd] at h1 h2
    cases d with
    | zero =>
      cases h1
      cases h2
      exact World.ownsRow.kept hu hg (lo_ne_rows hu h.1)
    | succ d => cases h1
theorem Own.rw {w : World} {n₀ : Nat} {v : Value} {us : List Value} {K : List (List Int)} (h : Own w n₀ v us K) : Rw w v K := by
  obtain ⟨⟨hl, hc⟩, h1, h2⟩ := h
  rcases hc with ⟨rfl, h0⟩ | ⟨g, cap, cur, rfl, hb, hg, h3, h4, h5, h6⟩
  · have hK : K = [] := List.eq_nil_of_length_eq_zero (by omega)
    subst hK
    exact ⟨none, 0, rfl, Nat.le_refl _, Nat.zero_le _, fun _ => rfl, fun q => absurd q (by simp)⟩
  · refine ⟨some ⟨g, 0, none⟩, cap, by rw [h1], by omega, h4, fun q => (by cases q), fun q => ⟨_, rfl, (Array.getElem?_eq_some_iff.1 hg).1, fun j xs hj => ?_⟩⟩
    have hjl : j < us.length := by
      rw [h1]
      rcases Nat.lt_or_ge j K.length with q | q
      · exact q
      · rw [List.getElem?_eq_none q] at hj; cases hj
    refine ⟨us[j], ?_, Sl.of_lo (h2 j _ xs (List.getElem?_eq_getElem hjl) hj)⟩
    rw [add_zero', cell_of_row w g j cur _ (0, 0) hg]
    have e : us[j]? = some us[j] := List.getElem?_eq_getElem hjl
    have e2 : (cur.toList.take (us.length * 1))[j]? = us[j]? := by rw [h6]
    rw [List.getElem?_take, if_pos (by omega), e] at e2
    simpa using e2
def OutRel (w : World) (n : Nat) (L : List (List Int)) (g : List Int → List Int) (u7 u8 : Value) (wr : World) : Prop :=
  ∃ (x : Nat) (us : List Value), x ≤ n ∧ u8 = .int .i64 x ∧ Own wr w.heap.size u7 us ((L.take x).map g) ∧ Up w wr
def MidRel (wb : World) (k : Nat) (xs : List Int) (f : Int → Int) (u9 u10 : Value) (wr : World) : Prop :=
  ∃ h : Nat, h ≤ k ∧ u10 = .int .i64 h ∧ Lo wr wb.heap.size u9 ((xs.take h).map f) ∧ Up wb wr
def LowRel (wc : World) (fs ts : List Int) (a : Int) (nf : Nat) (u11 u12 : Value) (wr : World) : Prop :=
  ∃ m : Nat, m ≤ nf ∧ u12 = .int .i64 ((m : Int) - 1) ∧ u11 = .int .u64 (seek ts a (fs.drop m) m) ∧ Up wc wr
def RrRel (w : World) (L K : List (List Int)) (n : Nat) (i : Value) (wr : World) : Prop := ∃ x : Nat, x ≤ n ∧ i = .int .i64 x ∧ L.take x = K.take x ∧ Up w wr

end Go.Proofs.YtddoljfkbkbfjaaGreat.K
/-! Of stage 9 -/
namespace Go.Proofs.YtddoljfkbkbfjaaGreat.K
open Go.Joins Go.ChangeShapes Go.WideShapes Go.ChangeAt Go.RowKit Go.Deep Go.Shelf Go.Maps
set_option linter.unusedVariables false
set_option linter.unusedSimpArgs false
attribute [local go_sem] Oper.semAt_some

theorem flat_step (L : List (List Int)) {x : Nat} (h : x < L.length) : (L.take (x + 1)).flatten = (L.take x).flatten ++ L.getD x [] := by
  rw [take_one [] h, List.flatten_append]
  simp
theorem flat_pre (L : List (List Int)) (x : Nat) : (L.take x).flatten <+: L.flatten := by
  have := List.flatten_append (L₁ := L.take x) (L₂ := L.drop x)
  rw [List.take_append_drop] at this
  exact ⟨_, this.symm⟩
theorem flat_in (L : List (List Int)) {x h : Nat} (hx : x < L.length) : (L.take x).flatten ++ (L.getD x []).take h <+: L.flatten := by
  refine List.IsPrefix.trans ?_ (flat_pre L (x + 1))
  rw [flat_step L hx]
  exact (List.prefix_append_right_inj _).2 (List.take_prefix _ _)

instance decU64 (a : Int) : Decidable (U64 a) := by unfold U64; infer_instance
/-- A word, whatever the number. -/
def clip (a : Int) : Int := if U64 a then a else 0
theorem clip_u64 (a : Int) : U64 (clip a) := by
  unfold clip
  split
  · assumption
  · exact ⟨by decide, by decide⟩
theorem clip_ok {a : Int} (h : U64 a) : clip a = a := if_pos h
theorem clip_all {l : List Int} (h : ∀ x ∈ l, U64 x) : l.map clip = l := by
  rw [List.map_congr_left (fun x hx => clip_ok (h x hx)), List.map_id']
/-- What a round keeps: what lay below, and boxes of rows of rows. -/
def KpR (n₀ : Nat) (A B : World) : Prop := Below n₀ A B ∧ ∀ g cs, Blk A g 52 cs → Blk B g 52 cs
theorem KpR.t {n₀ : Nat} {A B C : World} (h : KpR n₀ A B) (k : KpR n₀ B C) : KpR n₀ A C := ⟨h.1.trans k.1, fun g cs hb => k.2 g cs (h.2 g cs hb)⟩
theorem KpR.b {n₀ : Nat} {w : World} (hn : n₀ ≤ w.heap.size) (W : World) (l : Nat) (o o' : Obj) (hl : w.heap.size ≤ l) (h : W.heap[l]? = some o) (h1 : o.isCells = false) (h2 : o.isWalk = false) : KpR n₀ W (W.putObj l o') :=
  ⟨belowK_b hn W l o o' hl h h1 h2, fun g cs hb => blk_putObj o' hb h h1⟩
theorem KpR.up {n₀ : Nat} {A B : World} (h : Up A B) (hn : n₀ ≤ A.heap.size) : KpR n₀ A B := ⟨h.bel hn, fun g cs hb => hb.up h⟩

end Go.Proofs.YtddoljfkbkbfjaaGreat.K
/-! Of stage 9 -/
namespace Go.Proofs.YtddoljfkbkbfjaaGreat.K
open Go.Joins Go.ChangeShapes Go.WideShapes Go.ChangeAt Go.RowKit Go.Deep Go.Shelf Go.Maps
set_option linter.unusedVariables false
set_option linter.unusedSimpArgs false
attribute [local go_sem] Oper.semAt_some

/-- Each once, none 0. -/
def unq (l : List Int) : List Int := l.foldl (fun o a => if a ∈ 0 :: o then o else o ++ [a]) []
theorem unq_snoc (l : List Int) (a : Int) : unq (l ++ [a]) = if a ∈ 0 :: unq l then unq l else unq l ++ [a] := by
  unfold unq
  rw [List.foldl_append]
  rfl
theorem unq_len (l : List Int) : (unq l).length ≤ l.length := by
  obtain ⟨r, rfl⟩ : ∃ r : List Int, l = r.reverse := ⟨l.reverse, by simp⟩
  induction r with
  | nil => exact Nat.le_refl _
  | cons a r ih =>
    rw [List.reverse_cons, unq_snoc]
    split <;> simp only [List.length_append, List.length_cons, List.length_nil] <;> omega



end Go.Proofs.YtddoljfkbkbfjaaGreat.K
/-! Of stage 9 -/
namespace Go.Proofs.YtddoljfkbkbfjaaGreat.K
open Go.Joins Go.ChangeShapes Go.WideShapes Go.ChangeAt Go.RowKit Go.Deep Go.Shelf Go.Maps
set_option linter.unusedVariables false
set_option linter.unusedSimpArgs false

def RaOut (w : World) (n : Nat) (L : List (List Int)) (u3 u4 : Value) (wr : World) : Prop :=
  ∃ x : Nat, x ≤ n ∧ u4 = .int .i64 x ∧ Lo wr w.heap.size u3 (unq (L.take x).flatten) ∧ Up w wr
def RaIn (w : World) (k x : Nat) (L : List (List Int)) (xs : List Int) (u3 u5 : Value) (wr : World) : Prop :=
  ∃ h : Nat, h ≤ k ∧ u5 = .int .i64 h ∧ Lo wr w.heap.size u3 (unq ((L.take x).flatten ++ xs.take h)) ∧ Up w wr
set_option maxRecDepth 100000 in
set_option maxHeartbeats 8000000 in
theorem rall_any (v : Value) (L : List (List Int)) (w : World) (hL : Rw w v L) (hN : L.flatten.length ≤ 17592186044415) :
    Calls Tryz.prog 37 #[v] w (Rows1 w (unq L.flatten)) := by
  have hLm := hL.max
  have HL := Lib.hid hL
  have HN := Lib.hid hN
  obtain ⟨A, c, rfl, -⟩ := hL
  generalize hn : L.length = n at *
  have HNL := Lib.hid hn
  clear hn hN
  unfold maxLen at hLm
  go_enter Tryz.func37, Tryz.ntmps37
  go_wp2_with (fail)
  go_loopw [3, 4] (fun u3 u4 wr => RaOut w n L u3 u4 wr) (fun _ u4 _ => n - (intOf u4).toNat)
  case atStart => exact ⟨0, Nat.zero_le _, rfl, Lo.nil _ _, Up.refl _⟩
  case round =>
    rename World => wb
    obtain ⟨x, hxn, rfl, hlo, hU⟩ := hrel
    by_cases hlt : x < n
    · obtain ⟨p, u, rfl, hcu, hsu⟩ := HL.out.at_ hlt
      have hlx : x < L.length := by rw [HNL.out]; exact hlt
      have FS := Lib.hid (flat_step L hlx)
      have FI := Lib.hid (fun h => flat_in L (h := h) hlx)
      have hsm := hsu.max
      generalize L.getD x [] = xs at hsu FS FI hsm
      have HS0 := Lib.hid hsu
      have HCU := Lib.hid hcu
      obtain ⟨Au, cu, rfl, -⟩ := hsu
      generalize hk : xs.length = k at *
      have HK := Lib.hid hk
      unfold maxLen at hsm
      have HLO := Lib.hid hlo
      have HU := Lib.hid hU
      clear hlo hU hk hcu
      go_wp2_with (fail)
      go_loopw [3, 5] (fun u3 u5 wr => RaIn w k x L xs u3 u5 wr) (fun _ u5 _ => k - (intOf u5).toNat)
      case atStart => exact ⟨0, Nat.zero_le _, rfl, by rw [List.take_zero, List.append_nil]; exact HLO.out, HU.out⟩
      case round =>
        clear HLO HU
        obtain ⟨h, hhk, rfl, hlo, hU⟩ := hrel
        have hcu := hU.cell HCU.out
        by_cases hh : h < k
        · obtain ⟨pu, rfl, hca⟩ := (HS0.out.up hU).rd.at_ hh
          have hlh : h < xs.length := by rw [HK.out]; exact hh
          have TX := Lib.hid (take_one 0 hlh)
          have HP := Lib.hid (FI.out (h + 1))
          generalize xs.getD h 0 = a at hca TX
          have hUQ : Hid (unq ((L.take x).flatten ++ xs.take (h + 1)) = if a ∈ 0 :: unq ((L.take x).flatten ++ xs.take h) then unq ((L.take x).flatten ++ xs.take h) else unq ((L.take x).flatten ++ xs.take h) ++ [a]) := Lib.hid (by
            rw [TX.out, ← List.append_assoc]
            exact unq_snoc _ _)
          have hul : (unq ((L.take x).flatten ++ xs.take h)).length + 1 ≤ 17592186044416 := by
            have h1 := unq_len ((L.take x).flatten ++ xs.take h)
            have h2 := (HP.out).length_le
            rw [TX.out] at h2
            have h3 := HN.out
            simp only [List.length_append, List.length_cons, List.length_nil] at h1 h2
            omega
          generalize unq ((L.take x).flatten ++ xs.take h) = out at *
          have hhs := Lib.hid (has_any u3 out a wr (Sl.of_lo hlo))
          have hsl : ∃ A n c, u3 = .slice A n c := (Sl.of_lo hlo).slice
          obtain ⟨A3, n3, c3, rfl⟩ := hsl
          have HLO := Lib.hid hlo
          have HU := Lib.hid hU
          clear hlo hU
          by_cases h0 : a = 0
          · subst h0
            have hE := hUQ.out
            rw [if_pos (by simp)] at hE
            have HE := Lib.hid hE
            generalize decide ((0 : Int) ∈ out) = bo at hhs
            clear hE hUQ
            go_wp2_with (fail)
            refine hhs.out.mono ?_
            rintro e w3 ⟨rfl, h3⟩
            have hcu3 := h3.cell hcu
            have hca3 := h3.cell hca
            have HLO3 := Lib.hid (HLO.out.up h3)
            have HU3 := Lib.hid (HU.out.trans h3)
            clear h3 hcu hca HLO HU hhs
            go_wp2
            exact ⟨⟨h + 1, by omega, by go_num, by rw [HE.out]; exact HLO3.out, HU3.out⟩, by simp [intOf]; omega⟩
          · have hb0 : (a != 0) = true := bne_iff_ne.2 h0
            by_cases hin : a ∈ out
            · rw [decide_eq_true hin] at hhs
              have hE := hUQ.out
              rw [if_pos (by simp [hin])] at hE
              have HE := Lib.hid hE
              clear hE hUQ hin h0
              go_wp2_with (fail)
              refine hhs.out.mono ?_
              rintro e w3 ⟨rfl, h3⟩
              have hcu3 := h3.cell hcu
              have hca3 := h3.cell hca
              have HLO3 := Lib.hid (HLO.out.up h3)
              have HU3 := Lib.hid (HU.out.trans h3)
              clear h3 hcu hca HLO HU hhs
              go_wp2
              exact ⟨⟨h + 1, by omega, by go_num, by rw [HE.out]; exact HLO3.out, HU3.out⟩, by simp [intOf]; omega⟩
            · rw [decide_eq_false hin] at hhs
              have hE := hUQ.out
              rw [if_neg (by simp [hin, h0])] at hE
              have HE := Lib.hid hE
              clear hE hUQ hin h0
              go_wp2_with (fail)
              refine hhs.out.mono ?_
              rintro e w3 ⟨rfl, h3⟩
              have hcu3 := h3.cell hcu
              have hca3 := h3.cell hca
              have hlo3 := HLO.out.up h3
              have HU3 := Lib.hid (HU.out.trans h3)
              have hsz := (HU3.out.alloc (.cells #[.int .u64 a] 54)).size
              clear h3 hcu hca HLO HU hhs
              go_wp2_with (at_builtin; refine wpList_own rfl _ _ rfl w.heap.size _ out rfl (World.ownsRow.alloc hlo3 _) ⟨w3.heap.size, 0, none⟩ [a] 1 1 rfl rfl (Blk.row (xs := [a]) (Blk.new _ _ _)) (by omega) hul hsz ?_; intro g cap w5 hown hg)
              have HUE := Lib.hid (Up.own (HU3.out.alloc _) (World.ownsRow.alloc hlo3 _) hg)
              have HOE := Lib.hid hown
              clear hown hg hlo3
              exact ⟨⟨h + 1, by omega, by go_num, by rw [HE.out]; exact HOE.out, HUE.out⟩, by simp [intOf]; omega⟩
        · obtain rfl : h = k := by omega
          rw [show xs.take h = xs from List.take_of_length_le (by rw [HK.out]; exact Nat.le_refl _), ← FS.out] at hlo
          have HLO := Lib.hid hlo
          have HU := Lib.hid hU
          clear hlo hU
          go_wp2
          exact ⟨⟨x + 1, by omega, by go_num, HLO.out, HU.out⟩, by simp [intOf]; omega⟩
    · obtain rfl : x = n := by omega
      rw [List.take_of_length_le (by rw [HNL.out]; exact Nat.le_refl _)] at hlo
      have hsl : ∃ A n c, u3 = .slice A n c := (Sl.of_lo hlo).slice
      obtain ⟨A3, n3, c3, rfl⟩ := hsl
      have HLO := Lib.hid hlo
      have HU := Lib.hid hU
      clear hlo hU
      go_wp2
      go_ret
      exact ⟨_, rfl, HLO.out, HU.out⟩

end Go.Proofs.YtddoljfkbkbfjaaGreat.K
/-! Of stage 9 -/
namespace Go.Proofs.YtddoljfkbkbfjaaGreat.K
open Go.Joins Go.ChangeShapes Go.WideShapes Go.ChangeAt Go.RowKit Go.Deep Go.Shelf Go.Maps
set_option linter.unusedVariables false
set_option linter.unusedSimpArgs false

/-! ### How much there is -/
theorem bulk_one {H : Type} (d : DataW H) : 1 ≤ Rows.uptoBulk d := by
  cases d with
  | lit l => cases l <;> simp [Rows.uptoBulk]
  | nil => simp [Rows.uptoBulk]
  | ptr d => simp [Rows.uptoBulk]
  | slice elems spare => simp [Rows.uptoBulk]
  | agg parts => simp [Rows.uptoBulk]
  | iface t d => simp [Rows.uptoBulk]
  | map entries => simp [Rows.uptoBulk]
  | held h => simp [Rows.uptoBulk]
theorem bulk_len {H : Type} (l : List (DataW H)) : l.length ≤ Rows.uptoBulkAll l := by
  induction l with
  | nil => simp [Rows.uptoBulkAll]
  | cons x r ih => have := bulk_one x; simp only [Rows.uptoBulkAll, List.length_cons]; omega
theorem weights_in {H : Type} {P : Program} {e : TypeId} : ∀ {ds : List (DataW H)} {d : DataW H}, d ∈ ds → ∀ n ∈ d.weights P e, n ∈ DataW.weightsAll P e ds
  | x :: r, d, h, n, hn => by
    simp only [DataW.weightsAll, List.mem_append]
    rcases List.mem_cons.1 h with rfl | h
    · exact .inl hn
    · exact .inr (weights_in h n hn)
theorem bytes_u64 : Tryz.prog.bytesOf 54 = 8 := by kernel_rfl
theorem bytes_words : Tryz.prog.bytesOf 22 = 24 := by kernel_rfl
theorem cells_rows : Tryz.prog.cellsOf 52 = 1 := by kernel_rfl
/-- All weights are within reach. -/
def Light {H : Type} (t : TypeId) (d : DataW H) : Prop := ∀ n ∈ d.weights Tryz.prog t, n ≤ reachBytes
theorem row_light {H : Type} {A : Option Addr} {l : Nat} {zs : List Int} (hA : A = none → zs.length = 0) (h : Light (H := H) 22 (intRow .u64 A l zs)) : zs.length ≤ 17592186044416 := by
  cases A with
  | none => have := hA rfl; omega
  | some a =>
    have := h ((zs.take l).length * 8 + (zs.drop l).length * 8) (by
      unfold intRow DataW.weights
      rw [Tryz.underlying22]
      simp only [List.mem_cons, bytes_u64]
      left
      unfold lits
      rw [List.length_map, List.length_map]
      omega)
    rw [List.length_take, List.length_drop] at this
    unfold reachBytes at this
    omega
theorem row_bulk {H : Type} {A : Option Addr} {l : Nat} {zs : List Int} (hl : l ≤ zs.length) (hA : A = none → zs.length = 0) : l + 1 ≤ Rows.uptoBulk (H := H) (intRow .u64 A l zs) := by
  cases A with
  | none => have := hA rfl; simp only [intRow, Rows.uptoBulk]; omega
  | some a =>
    unfold intRow
    simp only [Rows.uptoBulk]
    have := bulk_len (H := H) (lits .u64 (zs.take l))
    have h2 : (lits (H := H) .u64 (zs.take l)).length = l := by simp [lits]; omega
    omega
theorem sum_bulk {H : Type} (D : Nat → DataW H) (Z : Nat → List Int) : ∀ n, (∀ r, r < n → (Z r).length + 1 ≤ Rows.uptoBulk (D r)) → ((List.range n).map Z).flatten.length + n ≤ Rows.uptoBulkAll ((List.range n).map D)
  | 0, _ => by simp [Rows.uptoBulkAll]
  | n + 1, h => by
    have ih := sum_bulk D Z n (fun r hr => h r (by omega))
    have h1 := h n (by omega)
    have ha : ∀ (l r : List (DataW H)), Rows.uptoBulkAll (l ++ r) = Rows.uptoBulkAll l + Rows.uptoBulkAll r := by
      intro l r
      induction l with
      | nil => simp [Rows.uptoBulkAll]
      | cons x l ih => simp only [List.cons_append, Rows.uptoBulkAll, ih]; omega
    rw [List.range_succ, List.map_append, List.map_append, ha]
    simp only [List.map_cons, List.map_nil, Rows.uptoBulkAll, List.flatten_append, List.length_append, List.flatten_cons, List.flatten_nil, List.append_nil]
    omega

/-! ### Opened -/
section
variable {H : Type} {enc : TypeId × Value → H} {w : World}
theorem row_sl {A : Option Addr} {l c : Nat} {zs : List Int} (h1 : l ≤ c) (h2 : c ≤ maxLen) (h3 : zs.length = c) (h4 : A = none → c = 0) (h5 : ∀ a', A = some a' → ∀ i, i < c → w.cell? (a'.add i) = some (.int .u64 (zs.getD i 0))) : Sl w (.slice A l c) (zs.take l) := by
  have hl : (zs.take l).length = l := by rw [List.length_take]; omega
  refine ⟨A, c, by rw [hl], by omega, h2, h4, by rw [hl], fun hp => ?_⟩
  rw [hl] at hp
  cases A with
  | none => have := h4 rfl; omega
  | some a =>
    refine ⟨a, rfl, ?_, fun j x hx => ?_⟩
    · have := lt_of_cell (h5 a rfl 0 (by omega))
      rwa [block_of_add] at this
    · have hj : j < l := by
        rcases Nat.lt_or_ge j (zs.take l).length with q | q
        · omega
        · rw [List.getElem?_eq_none q] at hx; cases hx
      rw [List.getElem?_take, if_pos hj] at hx
      rw [h5 a rfl j (by omega)]
      simp [List.getD, hx]
theorem u64_all {zs : List Int} (h : ∀ n ∈ zs, (Lit.int .u64 n).wf = true) (l : Nat) : ∀ x ∈ zs.take l, U64 x := fun x hx => u64_of_wf (h x (List.mem_of_mem_take hx))
theorem words_sl {fuel : Nat} {v : Value} {x : DataW H × List MemPlace} (h : DataW.trod enc Tryz.prog w 0 (fun _ => true) true fuel 22 [v] = some x) :
    ∃ xs, Sl w v xs ∧ (∀ y ∈ xs, U64 y) ∧ xs.length + 1 ≤ Rows.uptoBulk x.1 ∧ (Light 22 x.1 → xs.length ≤ 17592186044416) := by
  rcases open_ints Tryz.underlying22 Tryz.underlying54 cells_u64 h with ⟨h0, rfl⟩ | ⟨a, l, c, zs, hcs, -, hl, hm, hz, rfl, hc, hw⟩
  · simp only [List.cons.injEq, and_true] at h0
    subst h0
    exact ⟨[], Sl.nil w, fun y hy => (by cases hy), by simp [Rows.uptoBulk], fun _ => by simp⟩
  · simp only [List.cons.injEq, and_true] at hcs
    subst hcs
    simp only [if_true] at hz
    have hr : (DataW.slice (lits .u64 (zs.take l)) (lits .u64 (zs.drop l)) : DataW H) = intRow .u64 (some a) l zs := rfl
    refine ⟨zs.take l, row_sl hl hm hz (fun q => (by cases q)) (fun a' e i hi => by cases e; exact hc i (by omega)), u64_all hw l, ?_, fun hL => ?_⟩
    · show (zs.take l).length + 1 ≤ Rows.uptoBulk (intRow (H := H) .u64 (some a) l zs)
      rw [List.length_take]
      have := row_bulk (H := H) (A := some a) (l := l) (zs := zs) (by omega) (fun q => by cases q)
      omega
    · have := row_light (H := H) (A := some a) (l := l) (zs := zs) (fun q => by cases q) hL
      rw [List.length_take]
      omega
theorem rows_rw {fuel : Nat} {v : Value} {x : DataW H × List MemPlace} (h : DataW.trod enc Tryz.prog w 0 (fun _ => true) true fuel 52 [v] = some x) :
    ∃ L, Rw w v L ∧ (∀ xs ∈ L, ∀ y ∈ xs, U64 y) ∧ L.flatten.length + L.length ≤ Rows.uptoBulk x.1 ∧ (Light 52 x.1 → Fit L) := by
  rcases open_int_rows Tryz.underlying52 Tryz.underlying22 Tryz.underlying54 cells_words cells_u64 h with ⟨h0, rfl⟩ | ⟨a, l, c, A, Ln, C, Z, hcs, -, hl, hm, rfl, hr⟩
  · simp only [List.cons.injEq, and_true] at h0
    subst h0
    exact ⟨[], ⟨none, 0, rfl, Nat.le_refl _, Nat.zero_le _, fun _ => rfl, fun q => absurd q (by simp)⟩, fun xs hx => (by cases hx), by simp [Rows.uptoBulk], fun _ => ⟨fun xs hx => (by cases hx), fun xs hx => (by cases hx), by simp⟩⟩
  · simp only [List.cons.injEq, and_true] at hcs
    subst hcs
    have hU : ∀ xs ∈ (List.range l).map fun r => (Z r).take (Ln r), ∃ r, r < l ∧ xs = (Z r).take (Ln r) := fun xs hx => by
      obtain ⟨r, hrr, rfl⟩ := List.mem_map.1 hx
      exact ⟨r, List.mem_range.1 hrr, rfl⟩
    refine ⟨(List.range l).map fun r => (Z r).take (Ln r), ⟨some a, c, by simp, by simpa using hl, hm, fun q => (by cases q), fun hp => ?_⟩, fun xs hx => ?_, ?_, fun hL => ⟨fun xs hx => ?_, fun xs hx => ?_, ?_⟩⟩
    · have hlp : 0 < l := by simpa using hp
      refine ⟨a, rfl, ?_, fun j xs hj => ?_⟩
      · have := lt_of_cell (hr 0 (by omega)).1
        rwa [block_of_add] at this
      · have hjl : j < l := by
          rcases Nat.lt_or_ge j l with q | q
          · exact q
          · rw [List.getElem?_eq_none (by simpa using q)] at hj; cases hj
        rw [List.getElem?_map, List.getElem?_range hjl] at hj
        cases hj
        obtain ⟨h1, h2, h3, h4, h5, h6, h7⟩ := hr j (by omega)
        exact ⟨_, h1, row_sl h2 h3 h4 h6 (fun a' e => (h7 a' e).2)⟩
    · obtain ⟨r, hrl, rfl⟩ := hU xs hx
      exact u64_all (hr r (by omega)).2.2.2.2.1 _
    · have hs := sum_bulk (H := H) (fun r => intRow .u64 (A r) (Ln r) (Z r)) (fun r => (Z r).take (Ln r)) l (fun r hrl => by
        obtain ⟨h1, h2, h3, h4, h5, h6, h7⟩ := hr r (by omega)
        rw [List.length_take]
        have := row_bulk (H := H) (A := A r) (l := Ln r) (zs := Z r) (by omega) (fun q => by rw [h4]; exact h6 q)
        omega)
      simp only [List.length_map, List.length_range, Rows.uptoBulk]
      omega
    · obtain ⟨r, hrl, rfl⟩ := hU xs hx
      exact u64_all (hr r (by omega)).2.2.2.2.1 _
    · obtain ⟨r, hrl, rfl⟩ := hU xs hx
      obtain ⟨h1, h2, h3, h4, h5, h6, h7⟩ := hr r (by omega)
      have := row_light (H := H) (A := A r) (l := Ln r) (zs := Z r) (fun q => by rw [h4]; exact h6 q) (fun n hn => hL n (by
        unfold DataW.weights
        rw [Tryz.underlying52]
        simp only [List.mem_cons, List.mem_append]
        exact .inr (.inl (weights_in (List.mem_map.2 ⟨r, List.mem_range.2 hrl, rfl⟩) n hn))))
      rw [List.length_take]
      omega
    · have := hL (c * 24) (by
        unfold DataW.weights
        rw [Tryz.underlying52]
        simp only [List.mem_cons, bytes_words, List.length_map, List.length_range]
        left
        omega)
      rw [List.length_map, List.length_range]
      unfold reachBytes at this
      omega
set_option maxRecDepth 100000 in
theorem words_at {r : Reach} {b0 : Nat} {v : Value} {d : DataW H} {p : List MemPlace} (hv : Value.okWide Tryz.prog w r b0 22 v) (h : DataW.Trod enc Tryz.prog w 0 (fun _ => true) true 22 v d p) :
    ∃ xs, Sl w v xs ∧ (∀ y ∈ xs, U64 y) ∧ xs.length + 1 ≤ Rows.uptoBulk d ∧ (Light 22 d → xs.length ≤ 17592186044416) := by
  obtain ⟨a, len, cap, rfl⟩ := okWide_slice Tryz.underlying22 hv
  obtain ⟨fuel, hf⟩ := h
  exact words_sl (x := (d, p)) hf
set_option maxRecDepth 100000 in
theorem rows_at {r : Reach} {b0 : Nat} {v : Value} {d : DataW H} {p : List MemPlace} (hv : Value.okWide Tryz.prog w r b0 52 v) (h : DataW.Trod enc Tryz.prog w 0 (fun _ => true) true 52 v d p) :
    ∃ L, Rw w v L ∧ (∀ xs ∈ L, ∀ y ∈ xs, U64 y) ∧ L.flatten.length + L.length ≤ Rows.uptoBulk d ∧ (Light 52 d → Fit L) := by
  obtain ⟨a, len, cap, rfl⟩ := okWide_slice Tryz.underlying52 hv
  obtain ⟨fuel, hf⟩ := h
  exact rows_rw (x := (d, p)) hf
end


end Go.Proofs.YtddoljfkbkbfjaaGreat.K
