/- The document's Reach: contracts. -/
import Derived.Test.YtddoljfkbkbfjaaGreatAh
import Derived.Maps.OwnIn
import Derived.Laws.EntriesVeiled
/-! Of stage 6 -/
namespace Go.Proofs.YtddoljfkbkbfjaaGreat
open Go.ChangeShapes Go.WideShapes Go.ChangeAt Go.RowKit
set_option linter.unusedVariables false
set_option linter.unusedSimpArgs false

/-- A space, thing by thing. -/
def Me.sq (m : Me) (s lim : Int) : List Th := m.seqn s lim (lim.toNat + 1) 0
def Me.vld (m : Me) (s lim : Int) : Prop := (s = 0 ∨ s = 1) ∧ 0 ≤ lim ∧ lim ≤ m.n
instance decVld (m : Me) (s lim : Int) : Decidable (m.vld s lim) := by unfold Me.vld; infer_instance
/-- Its error, and what is told of those that are wanted. -/
def Me.tle (m : Me) (s lim : Int) : Int := if m.vld s lim then ers (m.sq s lim) else 1
def Me.tll (m : Me) (wn : Th → Bool) (s lim : Int) : List Int := if m.tle s lim = 0 then pick wn (m.sq s lim) else []
def wAll (x : Th) : Bool := true
def wObj (x : Th) : Bool := !(x.t == 255)

theorem seqn_len (m : Me) (s lim : Int) : ∀ (f : Nat) (p : Int), (m.seqn s lim f p).length ≤ f
  | 0, _ => Nat.le_refl _
  | f + 1, p => by
    unfold Me.seqn
    split
    · exact Nat.zero_le _
    · split
      · have := seqn_len m s lim f (p + m.wsz (adr s p))
        simp only [List.length_cons]
        omega
      · simp

theorem Lo.le {w : World} {n₀ n₁ : Nat} {v : Value} {xs : List Int} (h : Lo w n₀ v xs) (k : n₁ ≤ n₀) : Lo w n₁ v xs :=
  ⟨h.1, h.2.imp id fun ⟨g, cap, cur, h1, h2, r⟩ => ⟨g, cap, cur, h1, Nat.le_trans k h2, r⟩⟩
/-- How many words objects have, and fillers. -/
def Me.ow (m : Me) (a : Int) : Int := if m.ate a = 0 ∧ m.att a ≠ 255 then m.wsz a else 0
def Me.fw (m : Me) (a : Int) : Int := if m.ate a = 0 ∧ m.att a = 255 then m.wsz a else 0
def Me.ows (m : Me) : List Int → Int
  | [] => 0
  | a :: r => m.ow a + m.ows r
def Me.fws (m : Me) : List Int → Int
  | [] => 0
  | a :: r => m.fw a + m.fws r
theorem ows_snoc (m : Me) (l : List Int) (a : Int) : m.ows (l ++ [a]) = m.ows l + m.ow a := by
  induction l with
  | nil => simp [Me.ows]
  | cons b r ih => simp only [List.cons_append, Me.ows, ih]; omega
theorem fws_snoc (m : Me) (l : List Int) (a : Int) : m.fws (l ++ [a]) = m.fws l + m.fw a := by
  induction l with
  | nil => simp [Me.fws]
  | cons b r ih => simp only [List.cons_append, Me.fws, ih]; omega
theorem ow_small (m : Me) (a : Int) : 0 ≤ m.ow a ∧ m.ow a ≤ 65536 := by
  unfold Me.ow
  split
  · rename_i h; have := wsz_small h.1; omega
  · omega
theorem fw_small (m : Me) (a : Int) : 0 ≤ m.fw a ∧ m.fw a ≤ 65536 := by
  unfold Me.fw
  split
  · rename_i h; have := wsz_small h.1; omega
  · omega
theorem ows_small (m : Me) (l : List Int) : 0 ≤ m.ows l ∧ m.ows l ≤ 65536 * l.length := by
  induction l with
  | nil => simp [Me.ows]
  | cons b r ih => have := ow_small m b; simp only [Me.ows, List.length_cons]; omega
theorem fws_small (m : Me) (l : List Int) : 0 ≤ m.fws l ∧ m.fws l ≤ 65536 * l.length := by
  induction l with
  | nil => simp [Me.fws]
  | cons b r ih => have := fw_small m b; simp only [Me.fws, List.length_cons]; omega

def WoRel (m : Me) (P Q : Addr) (c d : Nat) (xs : List Int) (k : Nat) (w : World) (u6 u7 i : Value) (wr : World) : Prop :=
  ∃ x : Nat, x ≤ k ∧ i = .int .i64 x ∧ u6 = .int .i64 (m.ows (xs.take x)) ∧ u7 = .int .i64 (m.fws (xs.take x)) ∧ Up w wr ∧ Blk wr w.heap.size 25 (mcs m.n P Q c d)
theorem take_snoc' {xs : List Int} {x : Nat} (h : x < xs.length) : xs.take (x + 1) = xs.take x ++ [xs.getD x 0] := by
  rw [List.take_succ_eq_append_getElem h]
  simp [List.getD, List.getElem?_eq_getElem h]


end Go.Proofs.YtddoljfkbkbfjaaGreat
/-! Of stage 6 -/
namespace Go.Proofs.YtddoljfkbkbfjaaGreat
open Go.ChangeShapes Go.WideShapes Go.ChangeAt Go.RowKit Go.Shelf
set_option linter.unusedVariables false
set_option linter.unusedSimpArgs false
attribute [local go_sem] Oper.semAt_some

/-- What an object's pointers are, in order. -/
def Me.ptv (m : Me) (a : Int) : List Int := (pts (m.atl a) (m.atm a)).map fun i : Nat => m.getv a i
theorem pts_fok {m : Me} {a : Int} {i : Nat} (h : i ∈ pts (m.atl a) (m.atm a)) : m.fok a i := by
  have hp : ptb (m.atl a) (m.atm a) i = true := (List.mem_filter.1 h).2
  unfold ptb at hp
  rw [Bool.and_eq_true, Bool.and_eq_true] at hp
  obtain ⟨h0, h1, h2⟩ := hp
  have h0 := of_decide_eq_true h0
  have h1 := of_decide_eq_true h1
  have hk : m.atok a := by
    by_cases hk : m.atok a
    · exact hk
    · rw [(at_no hk).2.1] at h1; omega
  have ht : m.att a ≠ 255 := fun ht => by
    obtain ⟨e1, e2, e3⟩ := at_of hk
    have := (rte_small (mpw_nn _) (atok_rte hk)).2.2.2.2.2
    rw [e1] at ht
    have hz : m.atm a = 0 := by rw [e3]; omega
    rw [hz] at h2
    simp at h2
  exact ⟨kne_0.2 ⟨hk, ht⟩, decide_eq_true ⟨h0, h1⟩⟩
theorem atm_65535 (m : Me) (a : Int) : m.atm a ≤ 65535 := by
  by_cases hk : m.atok a
  · rw [(at_of hk).2.2]
    have := (rte_small (mpw_nn _) (atok_rte hk)).2.2.2.2.1
    omega
  · rw [(at_no hk).2.2]; decide
theorem ptv_len (m : Me) (a : Int) : (m.ptv a).length ≤ 16 := by
  unfold Me.ptv
  rw [List.length_map]
  exact pts_len _ _ (atm_nn m a) (atm_65535 m a)
theorem getv_u64 {m : Me} (hwf : m.wf) (a i : Int) : U64 (m.getv a i) := by
  unfold Me.getv
  split
  · exact hwf.ld _
  · exact u64_0
theorem ptv_u64 {m : Me} (hwf : m.wf) (a : Int) : ∀ x ∈ m.ptv a, U64 x := by
  intro x hx
  obtain ⟨i, _, rfl⟩ := List.mem_map.1 hx
  exact getv_u64 hwf a i

/-- A slice reads as a list of places of fields, in a block that is known whole. -/
def RdI (w : World) (A : Option Addr) (xs : List Nat) : Prop := 0 < xs.length → ∃ g cs, A = some ⟨g, 0, none⟩ ∧ Blk w g 3 cs ∧ ∀ (j x : Nat), xs[j]? = some x → cs[j]? = some (.int .i64 x)
theorem RdI.to {w w' : World} {A : Option Addr} {xs : List Nat} (h : RdI w A xs) (k : ∀ g cs, Blk w g 3 cs → Blk w' g 3 cs) : RdI w' A xs := fun q => by
  obtain ⟨g, cs, e, hb, hx⟩ := h q
  exact ⟨g, cs, e, k _ _ hb, hx⟩
theorem lst_rd {w : World} {n₀ : Nat} {v : Value} {xs : List Nat} (h : w.ownsRow n₀ 3 1 v xs.length (xs.map fun x : Nat => Value.int .i64 x)) : ∃ A cap, v = .slice A xs.length cap ∧ RdI w A xs := by
  obtain ⟨hl, hc⟩ := h
  rcases hc with ⟨rfl, h0⟩ | ⟨g, cap, cur, rfl, hb, hg, h1, h2, h3, h4⟩
  · exact ⟨none, 0, by rw [h0], fun q => by omega⟩
  · refine ⟨_, _, rfl, fun q => ⟨g, cur, rfl, hg, fun j x hx => ?_⟩⟩
    have hj : (xs.map fun x : Nat => Value.int .i64 x)[j]? = some (.int .i64 x) := by simp [hx]
    rw [← h4, List.getElem?_take] at hj
    have hlt : j < xs.length := by
      rcases Nat.lt_or_ge j xs.length with q | q
      · exact q
      · rw [List.getElem?_eq_none q] at hx; cases hx
    rw [if_pos (by omega)] at hj
    simpa using hj
theorem RdI.at_ {w : World} {A : Option Addr} {xs : List Nat} (h : RdI w A xs) {j : Nat} (hj : j < xs.length) : ∃ g, A = some ⟨g, 0, none⟩ ∧ w.cell? ⟨g, j, none⟩ = some (.int .i64 (xs.getD j 0 : Nat)) := by
  obtain ⟨g, cs, e, hb, hx⟩ := h (by omega)
  refine ⟨g, e, ?_⟩
  rw [hb.cell j]
  exact hx j _ (by simp [List.getD, List.getElem?_eq_getElem hj])

theorem range_pre {x n : Nat} (h : x ≤ n) : List.range x <+: List.range n := by
  obtain ⟨d, rfl⟩ := Nat.le.dest h
  rw [List.range_add]
  exact List.prefix_append _ _
theorem range_get (l : List Int) : (List.range l.length).map (fun x => l.getD x 0) = l := by
  apply List.ext_getElem?
  intro i
  simp only [List.getElem?_map]
  rcases Nat.lt_or_ge i l.length with h | h
  · simp [List.getElem?_range h, List.getD, List.getElem?_eq_getElem h]
  · rw [List.getElem?_eq_none (by simpa using h), List.getElem?_eq_none h]; rfl

end Go.Proofs.YtddoljfkbkbfjaaGreat
/-! Of stage 6 -/
namespace Go.Proofs.YtddoljfkbkbfjaaGreat
open Go.ChangeShapes Go.WideShapes Go.ChangeAt Go.RowKit Go.Shelf Go.Maps
set_option linter.unusedVariables false
set_option linter.unusedSimpArgs false

/-! ### What is reached -/
/-- An object, and what its pointers lead to, if it isn't told yet. -/
def Me.vis (m : Me) : Nat → Int → List Int → List Int
  | 0, _, out => out
  | f + 1, a, out => if m.real a = true ∧ a ∉ out then (m.ptv a).foldl (fun o p => m.vis f p o) (out ++ [a]) else out
/-- The addresses of all objects. -/
def Me.reals (m : Me) : List Int := ((List.range m.n).map (fun i : Nat => adr 0 i) ++ (List.range m.n).map (fun i : Nat => adr 1 i)).filter m.real
/-- How many aren't told yet. -/
def Me.lft (m : Me) (out : List Int) : Nat := (m.reals.filter (fun a => decide (a ∉ out))).length
theorem real_mem {m : Me} {a : Int} (h : m.real a = true) : a ∈ m.reals := by
  have hk := (kne_0.1 (of_decide_eq_true h)).1
  obtain ⟨hb, hn⟩ := hk.1
  have e := adr_of hb
  have hp := whp_nn a
  refine List.mem_filter.2 ⟨?_, h⟩
  rw [List.mem_append]
  rcases whs_01 a with q | q
  · exact .inl (List.mem_map.2 ⟨(whp a).toNat, List.mem_range.2 (by omega), by unfold adr; omega⟩)
  · exact .inr (List.mem_map.2 ⟨(whp a).toNat, List.mem_range.2 (by omega), by unfold adr; omega⟩)
theorem real_u64 {m : Me} {a : Int} (h : m.real a = true) : U64 a := by
  have hk := (kne_0.1 (of_decide_eq_true h)).1
  obtain ⟨hb, hn⟩ := hk.1
  have e := adr_of hb
  have hp := whp_nn a
  have h2 : whp a ≤ 4294967295 := by unfold whp; split <;> omega
  rcases whs_01 a with q | q <;> (unfold U64; omega)
theorem flt_le {l : List Int} {p q : Int → Bool} (h : ∀ x, p x = true → q x = true) : (l.filter p).length ≤ (l.filter q).length := by
  induction l with
  | nil => simp
  | cons x r ih =>
    simp only [List.filter_cons]
    cases hp : p x
    · cases hq : q x
      · simpa using ih
      · simp only [Bool.false_eq_true, if_false, if_true, List.length_cons]; omega
    · rw [h x hp]
      simp only [if_true, List.length_cons]; omega
theorem flt_lt {l : List Int} {p q : Int → Bool} (h : ∀ x, p x = true → q x = true) {a : Int} (ha : a ∈ l) (h0 : p a = false) (h1 : q a = true) : (l.filter p).length < (l.filter q).length := by
  induction l with
  | nil => cases ha
  | cons x r ih =>
    simp only [List.filter_cons]
    rcases List.mem_cons.1 ha with rfl | ha
    · rw [h0, h1]
      have := flt_le (l := r) h
      simp only [Bool.false_eq_true, if_false, if_true, List.length_cons]; omega
    · have := ih ha
      cases hp : p x
      · cases hq : q x
        · simpa using this
        · simp only [Bool.false_eq_true, if_false, if_true, List.length_cons]; omega
      · rw [h x hp]
        simp only [if_true, List.length_cons]; omega
theorem lft_mono {m : Me} {o o' : List Int} (h : ∀ x ∈ o, x ∈ o') : m.lft o' ≤ m.lft o :=
  flt_le (fun x hx => decide_eq_true (fun q => of_decide_eq_true hx (h x q)))
theorem lft_snoc {m : Me} {o : List Int} {a : Int} (h : m.real a = true) (k : a ∉ o) : m.lft (o ++ [a]) < m.lft o :=
  flt_lt (fun x hx => decide_eq_true (fun q => of_decide_eq_true hx (by simp [q]))) (real_mem h) (decide_eq_false (fun q => q (by simp))) (decide_eq_true k)
theorem lft_le (m : Me) (o : List Int) : m.lft o ≤ 2 * m.n := by
  unfold Me.lft
  refine Nat.le_trans (List.length_filter_le _ _) ?_
  unfold Me.reals
  refine Nat.le_trans (List.length_filter_le _ _) ?_
  simp
  omega
theorem vis_yes {m : Me} {f : Nat} {a : Int} {out : List Int} (h : m.real a = true) (k : a ∉ out) : m.vis (f + 1) a out = (m.ptv a).foldl (fun o p => m.vis f p o) (out ++ [a]) := if_pos ⟨h, k⟩
theorem vis_no {m : Me} {f : Nat} {a : Int} {out : List Int} (h : m.real a = false ∨ a ∈ out) : m.vis (f + 1) a out = out := if_neg (fun q => by
  rcases h with h | h
  · rw [h] at q; cases q.1
  · exact q.2 h)
theorem fold_pre {g : List Int → Int → List Int} (h : ∀ o p, o <+: g o p) (ps : List Int) : ∀ o, o <+: ps.foldl g o := by
  induction ps with
  | nil => exact fun o => List.prefix_rfl
  | cons p r ih => exact fun o => (h o p).trans (ih _)
theorem vis_pre (m : Me) : ∀ (f : Nat) (a : Int) (out : List Int), out <+: m.vis f a out
  | 0, _, _ => List.prefix_rfl
  | f + 1, a, out => by
    unfold Me.vis
    split
    · exact (List.prefix_append _ _).trans (fold_pre (fun o p => vis_pre m f p o) _ _)
    · exact List.prefix_rfl

/-! ### Worlds -/
theorem law64 : Keyed Tryz.prog 54 := int_keyed Tryz.underlying54
theorem wf_of_u64 {a : Int} (h : U64 a) : (Lit.int .u64 a).wf = true := by
  have e : IntKind.u64.min = 0 := by decide
  have e2 : IntKind.u64.max = 18446744073709551615 := by decide
  simp [Lit.wf, e, e2]
  exact h
theorem key_of {a : Int} (h : U64 a) : keyOf Tryz.prog 54 (.int .u64 a) = some (.int .u64 a) := keyOf_int_mk Tryz.underlying54 (wf_of_u64 h)
/-- A set of addresses. -/
def setD (out : List Int) : DataW Unit := setOf (.agg []) (out.map (Lit.int .u64))
theorem setD_snoc (out : List Int) (a : Int) : setD (out ++ [a]) = (setD out).put (.int .u64 a) (.agg []) := by
  unfold setD
  rw [List.map_append]
  exact setOf_snoc _ _ _
theorem setD_has (out : List Int) (a : Int) : Maps.has (setD out) (.int .u64 a) = decide (a ∈ out) := by
  unfold setD
  rw [has_setOf]
  · induction out with
    | nil => simp
    | cons b r ih =>
      have hk : (Lit.int .u64 b).sameKey (Lit.int .u64 a) = decide (b = a) := by simp [Lit.sameKey]
      rw [List.map_cons, List.any_cons, ih, hk]
      by_cases h : b = a
      · subst h; simp
      · have : ¬ a = b := fun q => h q.symm
        simp [h, this]
  · intro x hx
    obtain ⟨y, _, rfl⟩ := List.mem_map.1 hx
    trivial

/-- The blocks that follow writes. -/
def Wr (Bp Bl : Nat) (A : World) (k : Nat) : Prop := k = Bp ∨ k = Bl ∨ ∃ v, Boxed A Bl 22 v ∧ v.ownBlock = some k
def StL (n₀ Bp Bl : Nat) (A : World) : Prop := (∃ v xs, Boxed A Bl 22 v ∧ Lo A n₀ v xs) ∧ ∃ o, A.heap[Bp]? = some o ∧ o.isCells = false
theorem boxed_one {A : World} {B : Nat} {t : TypeId} {v v' : Value} (h : Boxed A B t v) (k : Boxed A B t v') : v = v' := by
  unfold Boxed at h k
  rw [h] at k
  injection k with k
  injection k with k
  simpa using k
/-- What a call of follow keeps: what lay below, and all cells but those that it writes. -/
structure Kc (n₀ Bp Bl : Nat) (A B : World) : Prop where
  b : Below n₀ A B
  s : StL n₀ Bp Bl A → StL n₀ Bp Bl B
  k : StL n₀ Bp Bl A → ∀ k o, A.heap[k]? = some o → o.isCells = true → ¬ Wr Bp Bl A k → B.heap[k]? = some o ∧ ¬ Wr Bp Bl B k
theorem Kc.t {n₀ Bp Bl : Nat} {A B C : World} (h : Kc n₀ Bp Bl A B) (k : Kc n₀ Bp Bl B C) : Kc n₀ Bp Bl A C :=
  ⟨h.b.trans k.b, fun q => k.s (h.s q), fun q i o hi ho hw => by
    obtain ⟨h1, h2⟩ := h.k q i o hi ho hw
    exact k.k (h.s q) i o h1 ho h2⟩
theorem Kc.refl (n₀ Bp Bl : Nat) (A : World) : Kc n₀ Bp Bl A A := ⟨Below.refl _ _, id, fun _ _ _ h _ w => ⟨h, w⟩⟩
theorem lt_of_get {A : World} {k : Nat} {o : Obj} (h : A.heap[k]? = some o) : k < A.heap.size := (Array.getElem?_eq_some_iff.1 h).1
theorem Kc.up {n₀ Bp Bl : Nat} {A B : World} (h : Up A B) (hn : n₀ ≤ A.heap.size) : Kc n₀ Bp Bl A B := by
  refine ⟨h.bel hn, fun ⟨⟨v, xs, hv, hl⟩, o, ho, hc⟩ => ⟨⟨v, xs, Blk.up hv h, hl.up h⟩, o, (h.block _ (lt_of_get ho)).trans ho, hc⟩, fun ⟨⟨v, xs, hv, hl⟩, _⟩ k o hk ho hw => ⟨(h.block _ (lt_of_get hk)).trans hk, fun q => hw ?_⟩⟩
  rcases q with q | q | ⟨v', hv', q⟩
  · exact .inl q
  · exact .inr (.inl q)
  · have : v = v' := boxed_one (show Boxed B Bl _ v from Blk.up hv h) hv'
    subst this
    exact .inr (.inr ⟨v, hv, q⟩)
theorem Kc.map {n₀ Bp Bl : Nat} {A B : World} (h : A.grownBy B (some Bp)) (hn : n₀ ≤ A.heap.size) (h0 : n₀ ≤ Bp) (hne : Bl ≠ Bp) (hB : ∃ o, B.heap[Bp]? = some o ∧ o.isCells = false) : Kc n₀ Bp Bl A B := by
  have hbl : ∀ {v}, Boxed A Bl 22 v → Boxed B Bl 22 v := fun hv => hv.kept h (fun e => hne (by cases e; rfl))
  refine ⟨(Below.refl n₀ A).grown h hn (fun k e => by cases e; exact h0), fun ⟨⟨v, xs, hv, hl⟩, o, ho, hc⟩ => ⟨⟨v, xs, hbl hv, World.ownsRow.kept hl h ?_⟩, hB⟩, fun ⟨⟨v, xs, hv, hl⟩, _⟩ k o hk ho hw => ⟨(h.block k (lt_of_get hk) (fun e => hw (.inl (by cases e; rfl)))).trans hk, fun q => hw ?_⟩⟩
  · refine .inr (fun e => ?_)
    rcases hl.2 with ⟨rfl, _⟩ | ⟨g, cap, cur, rfl, _, hg, _⟩
    · simp [Value.ownBlock] at e
    · obtain rfl : g = Bp := by simpa [Value.ownBlock] using e
      rw [hg] at ho
      cases ho
      cases hc
  · rcases q with q | q | ⟨v', hv', q⟩
    · exact .inl q
    · exact .inr (.inl q)
    · have : v = v' := boxed_one (hbl hv) hv'
      subst this
      exact .inr (.inr ⟨v, hv, q⟩)
theorem Kc.app {n₀ Bp Bl : Nat} {A w1 : World} {v v' : Value} {xs ys : List Int} {tmp : Obj} (hv : Boxed A Bl 22 v) (hrow : Lo A n₀ v xs) (hgrow : (A.alloc tmp).grownBy w1 v.ownBlock)
    (h2 : Boxed (w1.setCell ⟨Bl, 0, none⟩ v') Bl 22 v') (h3 : Lo (w1.setCell ⟨Bl, 0, none⟩ v') n₀ v' ys) (h4 : KeepsOthers A (w1.setCell ⟨Bl, 0, none⟩ v')) (h5 : Below n₀ A (w1.setCell ⟨Bl, 0, none⟩ v'))
    (hloc : v'.ownBlock = v.ownBlock ∨ v'.ownBlock = some (A.alloc tmp).heap.size) : Kc n₀ Bp Bl A (w1.setCell ⟨Bl, 0, none⟩ v') := by
  refine ⟨h5, fun ⟨_, o, ho, hc⟩ => ⟨⟨v', ys, h2, h3⟩, o, h4.same _ _ ho hc, hc⟩, fun _ k o hk ho hw => ⟨?_, fun q => ?_⟩⟩
  · have hkl := lt_of_get hk
    have hb : k ≠ Bl := fun e => hw (.inr (.inl e))
    rw [Below.heap_setCell w1 ⟨Bl, 0, none⟩ v' k hb]
    rw [hgrow.block k (by simp; omega) (fun e => hw (.inr (.inr ⟨v, hv, e.symm⟩)))]
    exact (Below.heap_alloc A tmp k hkl).trans hk
  · rcases q with q | q | ⟨u, hu, q⟩
    · exact hw (.inl q)
    · exact hw (.inr (.inl q))
    · have : v' = u := boxed_one h2 hu
      subst this
      rcases hloc with e | e
      · exact hw (.inr (.inr ⟨v, hv, by rw [← e]; exact q⟩))
      · rw [e] at q
        have := lt_of_get hk
        simp at q
        omega
theorem Kc.b' {n₀ Bp Bl : Nat} {w : World} (hn : n₀ ≤ w.heap.size) (h0 : Bp < w.heap.size) (h1 : Bl < w.heap.size) (W : World) (l : Nat) (o o' : Obj) (hl : w.heap.size ≤ l) (h : W.heap[l]? = some o) (ho : o.isCells = false) (hw : o.isWalk = false) : Kc n₀ Bp Bl W (W.putObj l o') := by
  refine ⟨belowK_b hn W l o o' hl h ho hw, fun ⟨⟨v, xs, hv, hr⟩, q, hq, hc⟩ => ⟨⟨v, xs, blk_putObj o' hv h ho, ownsRow_putObj hr o' h ho⟩, q, (World.putObj_heap_other (by omega)).trans hq, hc⟩, fun ⟨⟨v, xs, hv, hr⟩, _⟩ k q hk hq hw => ⟨?_, fun r => hw ?_⟩⟩
  · refine (World.putObj_heap_other (fun e => ?_)).trans hk
    subst e
    rw [h] at hk
    cases hk
    rw [ho] at hq
    cases hq
  · rcases r with r | r | ⟨u, hu, r⟩
    · exact .inl r
    · exact .inr (.inl r)
    · have : v = u := boxed_one (show Boxed _ Bl _ v from blk_putObj o' hv h ho) hu
      subst this
      exact .inr (.inr ⟨v, hv, r⟩)
/-- A block of another kind isn't written. -/
theorem notWr {n₀ Bp Bl : Nat} {A : World} {g : Nat} {t : TypeId} {cs : Array Value} (hs : StL n₀ Bp Bl A) (h : Blk A g t cs) (h1 : t ≠ 22) (h2 : 54 ≠ t) : ¬ Wr Bp Bl A g := by
  obtain ⟨⟨v, xs, hv, hl⟩, o, ho, hc⟩ := hs
  rintro (e | e | ⟨u, hu, e⟩)
  · subst e
    unfold Blk at h
    rw [h] at ho
    cases ho
    cases hc
  · exact Blk.ne_type h (blk_of hv) h1 e
  · have : v = u := boxed_one hv hu
    subst this
    exact own_row_ne hl h h2 e.symm
theorem Kc.blk {n₀ Bp Bl : Nat} {A B : World} (h : Kc n₀ Bp Bl A B) (hs : StL n₀ Bp Bl A) {g : Nat} {t : TypeId} {cs : Array Value} (hg : Blk A g t cs) (hw : ¬ Wr Bp Bl A g) : Blk B g t cs := (h.k hs g _ hg rfl hw).1

end Go.Proofs.YtddoljfkbkbfjaaGreat
/-! Of stage 6 -/
namespace Go.Proofs.YtddoljfkbkbfjaaGreat
open Go.ChangeShapes Go.WideShapes Go.ChangeAt Go.RowKit Go.Shelf Go.Maps
set_option linter.unusedVariables false
set_option linter.unusedSimpArgs false
attribute [local go_sem] Oper.semAt_some

/-- Where follow's boxes lie. -/
structure Geo (n₀ Bm Bl Bp Bk Bf : Nat) (P Q : Addr) : Prop where
  a : n₀ ≤ Bm
  b : Bm < Bl
  c : Bl < Bp
  d : Bp < Bk
  e : Bk < Bf
  p : P.block < n₀
  q : Q.block < n₀
theorem kf_mono {B B' : Nat} {w w' : World} (h : KeepsFrom B w w') (k : B ≤ B') : KeepsFrom B' w w' := ⟨h.size, fun i o hi => h.same i o (Nat.le_trans k hi)⟩
theorem nodup_snoc {l : List Int} {a : Int} (h : l.Nodup) (k : a ∉ l) : (l ++ [a]).Nodup := by
  rw [List.nodup_append]
  exact ⟨h, by simp, fun x hx y hy => by rw [List.mem_singleton.1 hy]; exact fun e => k (e ▸ hx)⟩
theorem getD_u64 {l : List Int} (h : ∀ x ∈ l, U64 x) (i : Nat) : U64 (l.getD i 0) := by
  unfold List.getD
  cases e : l[i]? with
  | none => exact u64_0
  | some x => exact h x (List.mem_of_getElem? e)
theorem Kc.grow {n₀ Bp Bl Bf : Nat} {A B : World} {row : Option Nat} (hp : Bp ≤ Bf) (hl : Bl ≤ Bf) (hn0 : n₀ ≤ Bf) (hn : n₀ ≤ A.heap.size) (hg : A.grownBy B row) (hr : ∀ r, row = some r → Bf < r ∧ ∃ o : Obj, A.heap[r]? = some o ∧ o.isCells = false) : Kc n₀ Bp Bl A B := by
  have hne : ∀ b, b ≤ Bf → some b ≠ row := fun b hb e => by have := (hr b e.symm).1; omega
  have hcl : ∀ {k o}, A.heap[k]? = some o → o.isCells = true → some k ≠ row := fun hk hc e => by
    obtain ⟨_, o, ho, hx⟩ := hr _ e.symm
    rw [hk] at ho
    cases ho
    rw [hc] at hx
    cases hx
  refine ⟨(Below.refl n₀ A).grown hg hn (fun k e => by have := (hr k e).1; omega), fun ⟨⟨v, xs, hv, hlo⟩, o, ho, hc⟩ => ⟨⟨v, xs, hv.kept hg (hne _ hl), World.ownsRow.kept hlo hg ?_⟩, o, (hg.block _ (lt_of_get ho) (hne _ hp)).trans ho, hc⟩, fun ⟨⟨v, xs, hv, hlo⟩, _⟩ k o hk ho hw => ⟨(hg.block k (lt_of_get hk) (hcl hk ho)).trans hk, fun q => hw ?_⟩⟩
  · cases e : v.ownBlock with
    | none => exact .inl rfl
    | some g =>
      refine .inr (fun q => ?_)
      rcases hlo.2 with ⟨rfl, _⟩ | ⟨g', cap, cur, rfl, _, hg', _⟩
      · simp [Value.ownBlock] at e
      · obtain rfl : g' = g := by simpa [Value.ownBlock] using e
        exact hcl hg' rfl q
  · rcases q with q | q | ⟨u, hu, q⟩
    · exact .inl q
    · exact .inr (.inl q)
    · have : v = u := boxed_one (hv.kept hg (hne _ hl)) hu
      subst this
      exact .inr (.inr ⟨v, hv, q⟩)

theorem own_ne_obj {w : World} {n₀ Bp : Nat} {v : Value} {xs : List Int} (h : Lo w n₀ v xs) (ho : ∃ o, w.heap[Bp]? = some o ∧ o.isCells = false) : v.ownBlock = none ∨ v.ownBlock ≠ some Bp := by
  refine .inr (fun e => ?_)
  obtain ⟨o, ho, hc⟩ := ho
  rcases h.2 with ⟨rfl, _⟩ | ⟨g, cap, cur, rfl, _, hg, _⟩
  · simp [Value.ownBlock] at e
  · obtain rfl : g = Bp := by simpa [Value.ownBlock] using e
    rw [hg] at ho
    cases ho
    cases hc

end Go.Proofs.YtddoljfkbkbfjaaGreat
/-! Of stage 6 -/
namespace Go.Proofs.YtddoljfkbkbfjaaGreat
open Go.ChangeShapes Go.WideShapes Go.ChangeAt Go.RowKit Go.Shelf Go.Maps
set_option linter.unusedVariables false
set_option linter.unusedSimpArgs false

def Me.rch (m : Me) (roots : List Int) : List Int := roots.foldl (fun o a => m.vis (2 * m.n + 1) a o) []
theorem rch_snoc (m : Me) (l : List Int) (a : Int) : m.rch (l ++ [a]) = m.vis (2 * m.n + 1) a (m.rch l) := by
  unfold Me.rch
  rw [List.foldl_append]
  rfl
/-- A row of words comes. -/
def Rows1 (w : World) (xs : List Int) (e : Ending) (w' : World) : Prop := ∃ v, e = .returned v ∧ Lo w' w.heap.size v xs ∧ Up w w'

end Go.Proofs.YtddoljfkbkbfjaaGreat
