/- What is reached (package walk's follow, a closure that calls itself): plain facts; what its calls leave as it was. -/
import Derived.Test.YtmjadmoadedghaaWk5
import Derived.Maps.OwnIn
namespace Go.Proofs.Ytmjadmoadedghaa
open Go.ChangeShapes Go.WideShapes Go.ChangeAt Go.RowKit Go.Shelf Go.Maps
set_option linter.unusedVariables false
set_option linter.unusedSimpArgs false

/-! ### What is reached -/
/-- An object, and what its pointers lead to, if it isn't told yet. -/
def Me.vis (m : Me) : Nat → Int → List Int → List Int
  | 0, _, out => out
  | f + 1, a, out => if m.real a = true ∧ a ∉ out then (m.ptv a).foldl (fun o p => m.vis f p o) (out ++ [a]) else out
/-- The addresses of all objects. -/
def Me.reals (m : Me) : List Int := ((List.range m.n).map (fun i : Nat => adr 0 i) ++ (List.range m.n).map (fun i : Nat => adr 1 i)).filter m.real
/-- How many aren't told yet. -/
def Me.lft (m : Me) (out : List Int) : Nat := (m.reals.filter (fun a => decide (a ∉ out))).length
theorem real_mem {m : Me} {a : Int} (h : m.real a = true) : a ∈ m.reals := by
  have hk := (kne_0.1 (of_decide_eq_true h)).1
  obtain ⟨hb, hn⟩ := hk.1
  have e := adr_of hb
  have hp := whp_nn a
  refine List.mem_filter.2 ⟨?_, h⟩
  rw [List.mem_append]
  rcases whs_01 a with q | q
  · exact .inl (List.mem_map.2 ⟨(whp a).toNat, List.mem_range.2 (by omega), by unfold adr; omega⟩)
  · exact .inr (List.mem_map.2 ⟨(whp a).toNat, List.mem_range.2 (by omega), by unfold adr; omega⟩)
theorem real_u64 {m : Me} {a : Int} (h : m.real a = true) : U64 a := by
  have hk := (kne_0.1 (of_decide_eq_true h)).1
  obtain ⟨hb, hn⟩ := hk.1
  have e := adr_of hb
  have hp := whp_nn a
  have h2 : whp a ≤ 4294967295 := by unfold whp; split <;> omega
  rcases whs_01 a with q | q <;> (unfold U64; omega)
theorem flt_le {l : List Int} {p q : Int → Bool} (h : ∀ x, p x = true → q x = true) : (l.filter p).length ≤ (l.filter q).length := by
  induction l with
  | nil => simp
  | cons x r ih =>
    simp only [List.filter_cons]
    cases hp : p x
    · cases hq : q x
      · simpa using ih
      · simp only [Bool.false_eq_true, if_false, if_true, List.length_cons]; omega
    · rw [h x hp]
      simp only [if_true, List.length_cons]; omega
theorem flt_lt {l : List Int} {p q : Int → Bool} (h : ∀ x, p x = true → q x = true) {a : Int} (ha : a ∈ l) (h0 : p a = false) (h1 : q a = true) : (l.filter p).length < (l.filter q).length := by
  induction l with
  | nil => cases ha
  | cons x r ih =>
    simp only [List.filter_cons]
    rcases List.mem_cons.1 ha with rfl | ha
    · rw [h0, h1]
      have := flt_le (l := r) h
      simp only [Bool.false_eq_true, if_false, if_true, List.length_cons]; omega
    · have := ih ha
      cases hp : p x
      · cases hq : q x
        · simpa using this
        · simp only [Bool.false_eq_true, if_false, if_true, List.length_cons]; omega
      · rw [h x hp]
        simp only [if_true, List.length_cons]; omega
theorem lft_mono {m : Me} {o o' : List Int} (h : ∀ x ∈ o, x ∈ o') : m.lft o' ≤ m.lft o :=
  flt_le (fun x hx => decide_eq_true (fun q => of_decide_eq_true hx (h x q)))
theorem lft_snoc {m : Me} {o : List Int} {a : Int} (h : m.real a = true) (k : a ∉ o) : m.lft (o ++ [a]) < m.lft o :=
  flt_lt (fun x hx => decide_eq_true (fun q => of_decide_eq_true hx (by simp [q]))) (real_mem h) (decide_eq_false (fun q => q (by simp))) (decide_eq_true k)
theorem lft_le (m : Me) (o : List Int) : m.lft o ≤ 2 * m.n := by
  unfold Me.lft
  refine Nat.le_trans (List.length_filter_le _ _) ?_
  unfold Me.reals
  refine Nat.le_trans (List.length_filter_le _ _) ?_
  simp
  omega
theorem vis_yes {m : Me} {f : Nat} {a : Int} {out : List Int} (h : m.real a = true) (k : a ∉ out) : m.vis (f + 1) a out = (m.ptv a).foldl (fun o p => m.vis f p o) (out ++ [a]) := if_pos ⟨h, k⟩
theorem vis_no {m : Me} {f : Nat} {a : Int} {out : List Int} (h : m.real a = false ∨ a ∈ out) : m.vis (f + 1) a out = out := if_neg (fun q => by
  rcases h with h | h
  · rw [h] at q; cases q.1
  · exact q.2 h)
theorem fold_pre {g : List Int → Int → List Int} (h : ∀ o p, o <+: g o p) (ps : List Int) : ∀ o, o <+: ps.foldl g o := by
  induction ps with
  | nil => exact fun o => List.prefix_rfl
  | cons p r ih => exact fun o => (h o p).trans (ih _)
theorem vis_pre (m : Me) : ∀ (f : Nat) (a : Int) (out : List Int), out <+: m.vis f a out
  | 0, _, _ => List.prefix_rfl
  | f + 1, a, out => by
    unfold Me.vis
    split
    · exact (List.prefix_append _ _).trans (fold_pre (fun o p => vis_pre m f p o) _ _)
    · exact List.prefix_rfl

/-! ### Worlds -/
theorem law64 : Keyed Try.prog 31 := int_keyed Try.underlying31
theorem zeroS (w : World) : (zeroValue 72).run Try.prog w = .ok (.agg #[]) w := by kernel_rfl
theorem wf_of_u64 {a : Int} (h : U64 a) : (Lit.int .u64 a).wf = true := by
  have e : IntKind.u64.min = 0 := by decide
  have e2 : IntKind.u64.max = 18446744073709551615 := by decide
  simp [Lit.wf, e, e2]
  exact h
theorem key_of {a : Int} (h : U64 a) : keyOf Try.prog 31 (.int .u64 a) = some (.int .u64 a) := keyOf_int_mk Try.underlying31 (wf_of_u64 h)
/-- A set of addresses. -/
def setD (out : List Int) : DataW Unit := setOf (.agg []) (out.map (Lit.int .u64))
theorem setD_snoc (out : List Int) (a : Int) : setD (out ++ [a]) = (setD out).put (.int .u64 a) (.agg []) := by
  unfold setD
  rw [List.map_append]
  exact setOf_snoc _ _ _
theorem setD_has (out : List Int) (a : Int) : Maps.has (setD out) (.int .u64 a) = decide (a ∈ out) := by
  unfold setD
  rw [has_setOf]
  · induction out with
    | nil => simp
    | cons b r ih =>
      have hk : (Lit.int .u64 b).sameKey (Lit.int .u64 a) = decide (b = a) := by simp [Lit.sameKey]
      rw [List.map_cons, List.any_cons, ih, hk]
      by_cases h : b = a
      · subst h; simp
      · have : ¬ a = b := fun q => h q.symm
        simp [h, this]
  · intro x hx
    obtain ⟨y, _, rfl⟩ := List.mem_map.1 hx
    trivial

/-- The blocks that follow writes. -/
def Wr (Bp Bl : Nat) (A : World) (k : Nat) : Prop := k = Bp ∨ k = Bl ∨ ∃ v, Boxed A Bl 22 v ∧ v.ownBlock = some k
def StL (n₀ Bp Bl : Nat) (A : World) : Prop := (∃ v xs, Boxed A Bl 22 v ∧ Lo A n₀ v xs) ∧ ∃ o, A.heap[Bp]? = some o ∧ o.isCells = false
theorem boxed_one {A : World} {B : Nat} {t : TypeId} {v v' : Value} (h : Boxed A B t v) (k : Boxed A B t v') : v = v' := by
  unfold Boxed at h k
  rw [h] at k
  injection k with k
  injection k with k
  simpa using k
/-- What a call of follow keeps: what lay below, and all cells but those that it writes. -/
structure Kc (n₀ Bp Bl : Nat) (A B : World) : Prop where
  b : Below n₀ A B
  s : StL n₀ Bp Bl A → StL n₀ Bp Bl B
  k : StL n₀ Bp Bl A → ∀ k o, A.heap[k]? = some o → o.isCells = true → ¬ Wr Bp Bl A k → B.heap[k]? = some o ∧ ¬ Wr Bp Bl B k
theorem Kc.t {n₀ Bp Bl : Nat} {A B C : World} (h : Kc n₀ Bp Bl A B) (k : Kc n₀ Bp Bl B C) : Kc n₀ Bp Bl A C :=
  ⟨h.b.trans k.b, fun q => k.s (h.s q), fun q i o hi ho hw => by
    obtain ⟨h1, h2⟩ := h.k q i o hi ho hw
    exact k.k (h.s q) i o h1 ho h2⟩
theorem Kc.refl (n₀ Bp Bl : Nat) (A : World) : Kc n₀ Bp Bl A A := ⟨Below.refl _ _, id, fun _ _ _ h _ w => ⟨h, w⟩⟩
theorem lt_of_get {A : World} {k : Nat} {o : Obj} (h : A.heap[k]? = some o) : k < A.heap.size := (Array.getElem?_eq_some_iff.1 h).1
theorem Kc.up {n₀ Bp Bl : Nat} {A B : World} (h : Up A B) (hn : n₀ ≤ A.heap.size) : Kc n₀ Bp Bl A B := by
  refine ⟨h.bel hn, fun ⟨⟨v, xs, hv, hl⟩, o, ho, hc⟩ => ⟨⟨v, xs, Blk.up hv h, hl.up h⟩, o, (h.block _ (lt_of_get ho)).trans ho, hc⟩, fun ⟨⟨v, xs, hv, hl⟩, _⟩ k o hk ho hw => ⟨(h.block _ (lt_of_get hk)).trans hk, fun q => hw ?_⟩⟩
  rcases q with q | q | ⟨v', hv', q⟩
  · exact .inl q
  · exact .inr (.inl q)
  · have : v = v' := boxed_one (show Boxed B Bl _ v from Blk.up hv h) hv'
    subst this
    exact .inr (.inr ⟨v, hv, q⟩)
theorem Kc.map {n₀ Bp Bl : Nat} {A B : World} (h : A.grownBy B (some Bp)) (hn : n₀ ≤ A.heap.size) (h0 : n₀ ≤ Bp) (hne : Bl ≠ Bp) (hB : ∃ o, B.heap[Bp]? = some o ∧ o.isCells = false) : Kc n₀ Bp Bl A B := by
  have hbl : ∀ {v}, Boxed A Bl 22 v → Boxed B Bl 22 v := fun hv => hv.kept h (fun e => hne (by cases e; rfl))
  refine ⟨(Below.refl n₀ A).grown h hn (fun k e => by cases e; exact h0), fun ⟨⟨v, xs, hv, hl⟩, o, ho, hc⟩ => ⟨⟨v, xs, hbl hv, World.ownsRow.kept hl h ?_⟩, hB⟩, fun ⟨⟨v, xs, hv, hl⟩, _⟩ k o hk ho hw => ⟨(h.block k (lt_of_get hk) (fun e => hw (.inl (by cases e; rfl)))).trans hk, fun q => hw ?_⟩⟩
  · refine .inr (fun e => ?_)
    rcases hl.2 with ⟨rfl, _⟩ | ⟨g, cap, cur, rfl, _, hg, _⟩
    · simp [Value.ownBlock] at e
    · obtain rfl : g = Bp := by simpa [Value.ownBlock] using e
      rw [hg] at ho
      cases ho
      cases hc
  · rcases q with q | q | ⟨v', hv', q⟩
    · exact .inl q
    · exact .inr (.inl q)
    · have : v = v' := boxed_one (hbl hv) hv'
      subst this
      exact .inr (.inr ⟨v, hv, q⟩)
theorem Kc.app {n₀ Bp Bl : Nat} {A w1 : World} {v v' : Value} {xs ys : List Int} {tmp : Obj} (hv : Boxed A Bl 22 v) (hrow : Lo A n₀ v xs) (hgrow : (A.alloc tmp).grownBy w1 v.ownBlock)
    (h2 : Boxed (w1.setCell ⟨Bl, 0, none⟩ v') Bl 22 v') (h3 : Lo (w1.setCell ⟨Bl, 0, none⟩ v') n₀ v' ys) (h4 : KeepsOthers A (w1.setCell ⟨Bl, 0, none⟩ v')) (h5 : Below n₀ A (w1.setCell ⟨Bl, 0, none⟩ v'))
    (hloc : v'.ownBlock = v.ownBlock ∨ v'.ownBlock = some (A.alloc tmp).heap.size) : Kc n₀ Bp Bl A (w1.setCell ⟨Bl, 0, none⟩ v') := by
  refine ⟨h5, fun ⟨_, o, ho, hc⟩ => ⟨⟨v', ys, h2, h3⟩, o, h4.same _ _ ho hc, hc⟩, fun _ k o hk ho hw => ⟨?_, fun q => ?_⟩⟩
  · have hkl := lt_of_get hk
    have hb : k ≠ Bl := fun e => hw (.inr (.inl e))
    rw [Below.heap_setCell w1 ⟨Bl, 0, none⟩ v' k hb]
    rw [hgrow.block k (by simp; omega) (fun e => hw (.inr (.inr ⟨v, hv, e.symm⟩)))]
    exact (Below.heap_alloc A tmp k hkl).trans hk
  · rcases q with q | q | ⟨u, hu, q⟩
    · exact hw (.inl q)
    · exact hw (.inr (.inl q))
    · have : v' = u := boxed_one h2 hu
      subst this
      rcases hloc with e | e
      · exact hw (.inr (.inr ⟨v, hv, by rw [← e]; exact q⟩))
      · rw [e] at q
        have := lt_of_get hk
        simp at q
        omega
theorem Kc.b' {n₀ Bp Bl : Nat} {w : World} (hn : n₀ ≤ w.heap.size) (h0 : Bp < w.heap.size) (h1 : Bl < w.heap.size) (W : World) (l : Nat) (o o' : Obj) (hl : w.heap.size ≤ l) (h : W.heap[l]? = some o) (ho : o.isCells = false) (hw : o.isWalk = false) : Kc n₀ Bp Bl W (W.putObj l o') := by
  refine ⟨belowK_b hn W l o o' hl h ho hw, fun ⟨⟨v, xs, hv, hr⟩, q, hq, hc⟩ => ⟨⟨v, xs, blk_putObj o' hv h ho, ownsRow_putObj hr o' h ho⟩, q, (World.putObj_heap_other (by omega)).trans hq, hc⟩, fun ⟨⟨v, xs, hv, hr⟩, _⟩ k q hk hq hw => ⟨?_, fun r => hw ?_⟩⟩
  · refine (World.putObj_heap_other (fun e => ?_)).trans hk
    subst e
    rw [h] at hk
    cases hk
    rw [ho] at hq
    cases hq
  · rcases r with r | r | ⟨u, hu, r⟩
    · exact .inl r
    · exact .inr (.inl r)
    · have : v = u := boxed_one (show Boxed _ Bl _ v from blk_putObj o' hv h ho) hu
      subst this
      exact .inr (.inr ⟨v, hv, r⟩)
/-- A block of another kind isn't written. -/
theorem notWr {n₀ Bp Bl : Nat} {A : World} {g : Nat} {t : TypeId} {cs : Array Value} (hs : StL n₀ Bp Bl A) (h : Blk A g t cs) (h1 : t ≠ 22) (h2 : 31 ≠ t) : ¬ Wr Bp Bl A g := by
  obtain ⟨⟨v, xs, hv, hl⟩, o, ho, hc⟩ := hs
  rintro (e | e | ⟨u, hu, e⟩)
  · subst e
    unfold Blk at h
    rw [h] at ho
    cases ho
    cases hc
  · exact Blk.ne_type h (blk_of hv) h1 e
  · have : v = u := boxed_one hv hu
    subst this
    exact own_row_ne hl h h2 e.symm
theorem Kc.blk {n₀ Bp Bl : Nat} {A B : World} (h : Kc n₀ Bp Bl A B) (hs : StL n₀ Bp Bl A) {g : Nat} {t : TypeId} {cs : Array Value} (hg : Blk A g t cs) (hw : ¬ Wr Bp Bl A g) : Blk B g t cs := (h.k hs g _ hg rfl hw).1
end Go.Proofs.Ytmjadmoadedghaa
