/- The graph that memory has, plainly; memory that holds a graph (each node's object at an address) has it in order. -/
import Derived.Test.YtanhhkdoejnpiaaGreatGc
namespace Go.Proofs.YtanhhkdoejnpiaaGreat.G
open Go.Joins Go.ChangeShapes Go.WideShapes Go.ChangeAt Go.RowKit Go.Deep Go.Shelf Go.Maps
set_option linter.unusedVariables false
set_option linter.unusedSimpArgs false

/-- An object as a node, whose pointers are addresses. -/
def ndm (m : Me) (a : Int) : Nd := ((m.att a, m.atl a, m.atm a), (List.range (m.atl a).toNat).map fun (i : Nat) => m.getv a i)
/-- The graph of memory, and whether it has one. -/
def ofG (m : Me) (R : List (List Int)) : Gr := ((m.rch R.flatten).map fun a => mpF (pl (m.rch R.flatten)) (ndm m a), R.map fun row => row.map (pl (m.rch R.flatten)))
def okL (l : List Int) (xs : List Int) : Bool := xs.all fun a => decide (a ∈ 0 :: l)
def ofB (m : Me) (R : List (List Int)) : Bool := okL (m.rch R.flatten) R.flatten && (m.rch R.flatten).all fun a => okL (m.rch R.flatten) (m.ptv a)
theorem okL_true {l xs : List Int} : okL l xs = true ↔ ∀ a ∈ xs, a = 0 ∨ a ∈ l := by
  unfold okL
  rw [List.all_eq_true]
  exact ⟨fun h a ha => List.mem_cons.1 (of_decide_eq_true (h a ha)), fun h a ha => decide_eq_true (List.mem_cons.2 (h a ha))⟩
theorem ofB_true {m : Me} {R : List (List Int)} : ofB m R = true ↔ (∀ a ∈ R.flatten, a = 0 ∨ a ∈ m.rch R.flatten) ∧ ∀ a ∈ m.rch R.flatten, ∀ b ∈ m.ptv a, b = 0 ∨ b ∈ m.rch R.flatten := by
  unfold ofB
  rw [Bool.and_eq_true, okL_true, List.all_eq_true]
  exact and_congr_right fun _ => ⟨fun h a ha => okL_true.1 (h a ha), fun h a ha => okL_true.2 (h a ha)⟩

theorem real_head {m : Me} {a : Int} (h : m.real a = true) : m.atok a ∧ m.att a ≠ 255 ∧ rte (m.att a) (m.atl a) (m.atm a) = 0 ∧ 0 ≤ m.atl a ∧ m.atl a ≤ 16 ∧ 0 ≤ m.atm a ∧ m.atm a ≤ 65535 := by
  obtain ⟨h1, h2⟩ := kne_0.1 (of_decide_eq_true h)
  obtain ⟨h3, h4⟩ := at_rte (ate_0.2 h1)
  obtain ⟨a1, a2, a3, a4, a5, a6⟩ := rte_small h4 h3
  refine ⟨h1, h2, h3, a3, ?_, h4, by omega⟩
  rcases a6 with q | q
  · exact q.2.2.1
  · exact absurd q.1 h2
theorem ndm_len {m : Me} {a : Int} (h : m.real a = true) : ((ndm m a).2.length : Int) = m.atl a := by
  have := (real_head h).2.2.2.1
  simp only [ndm, List.length_map, List.length_range]
  omega
theorem ndm_at {m : Me} {a : Int} {i : Nat} (h : i < (ndm m a).2.length) : (ndm m a).2.getD i 0 = m.getv a i := by
  simp only [ndm, List.length_map, List.length_range] at h
  simp [ndm, List.getD, h]
theorem ptv_ndm {m : Me} {a : Int} (h : m.real a = true) : m.ptv a = ptrs (ndm m a) := by
  obtain ⟨_, _, _, h0, h1, h2, h3⟩ := real_head h
  have hl := ndm_len h
  unfold Me.ptv ptrs pix
  rw [pts_is _ _ h2 h3]
  have : (ndm m a).2.length = (m.atl a).toNat := by omega
  rw [this]
  refine List.map_congr_left fun i hi => ?_
  rw [ndm_at]
  rw [this]
  exact List.mem_range.1 (List.mem_filter.1 hi).1

/-! ### Memory that holds a graph -/
structure Hold (m : Me) (g : Gr) (A : Int → Int) (S : Int → Prop) : Prop where
  z : A 0 = 0
  inn : ∀ h, S h → inN g h
  inj : ∀ a b, S a → S b → A a = A b → a = b
  re : ∀ h, S h → m.real (A h) = true
  cl : ∀ h, S h → ∀ v ∈ ptrs (ndOf g h), v = 0 ∨ S v
  nd : ∀ h, S h → ndm m (A h) = mpF A (ndOf g h)
section
variable {m : Me} {g : Gr} {A : Int → Int} {S : Int → Prop}
theorem Hold.ne (H : Hold m g A S) {h : Int} (k : S h) : A h ≠ 0 := fun e => by
  have := H.re h k
  rw [e, real_0] at this
  cases this
theorem Hold.inj' (H : Hold m g A S) {a b : Int} (ha : a = 0 ∨ S a) (hb : b = 0 ∨ S b) (e : A a = A b) : a = b := by
  rcases ha with rfl | ha <;> rcases hb with rfl | hb
  · rfl
  · rw [H.z] at e; exact absurd e.symm (H.ne hb)
  · rw [H.z] at e; exact absurd e (H.ne ha)
  · exact H.inj a b ha hb e
theorem Hold.mem (H : Hold m g A S) {h : Int} {o : List Int} (k : h = 0 ∨ S h) (ho : ∀ m ∈ o, S m) : A h ∈ o.map A ↔ h ∈ o := by
  refine ⟨fun q => ?_, fun q => List.mem_map_of_mem q⟩
  obtain ⟨x, hx, e⟩ := List.mem_map.1 q
  rw [← H.inj' (.inr (ho x hx)) k e]
  exact hx
theorem Hold.ptv (H : Hold m g A S) {h : Int} (k : S h) : m.ptv (A h) = (ptrs (ndOf g h)).map A := by rw [ptv_ndm (H.re h k), H.nd h k, mp_ptrs]
theorem fold_hold (H : Hold m g A S) {f f' : Nat} (V : ∀ h o, (h = 0 ∨ S h) → (∀ m ∈ o, S m) → Told g o → g.1.length < f + o.length → m.lft (o.map A) < f' → m.vis f' (A h) (o.map A) = (vis g f h o).map A ∧ ∀ x ∈ vis g f h o, S x) :
    ∀ (hs o : List Int), (∀ h ∈ hs, h = 0 ∨ S h) → (∀ m ∈ o, S m) → Told g o → g.1.length < f + o.length → m.lft (o.map A) < f' → (hs.map A).foldl (fun o p => m.vis f' p o) (o.map A) = (vall g f hs o).map A ∧ ∀ x ∈ vall g f hs o, S x
  | [], o, _, ho, _, _, _ => ⟨rfl, ho⟩
  | h :: r, o, hh, ho, ht, hl, hm => by
    obtain ⟨e, k⟩ := V h o (hh h (by simp)) ho ht hl hm
    have M := vis_more g f h o ht hl
    have hle := M.pre.length_le
    have hmo : m.lft ((vis g f h o).map A) ≤ m.lft (o.map A) := lft_mono fun x hx => by
      obtain ⟨y, hy, rfl⟩ := List.mem_map.1 hx
      exact List.mem_map_of_mem (M.pre.subset hy)
    obtain ⟨e2, k2⟩ := fold_hold H V r (vis g f h o) (fun x hx => hh x (by simp [hx])) k M.td (by omega) (by omega)
    refine ⟨?_, k2⟩
    show (r.map A).foldl _ (m.vis f' (A h) (o.map A)) = _
    rw [e]
    exact e2
theorem vis_hold (H : Hold m g A S) : ∀ (f f' : Nat) (h : Int) (o : List Int), (h = 0 ∨ S h) → (∀ m ∈ o, S m) → Told g o → g.1.length < f + o.length → m.lft (o.map A) < f' → m.vis f' (A h) (o.map A) = (vis g f h o).map A ∧ ∀ x ∈ vis g f h o, S x
  | 0, _, h, o, _, _, ht, hl, _ => by have := ht.len; omega
  | _ + 1, 0, h, o, _, _, _, _, hm => by omega
  | f + 1, f' + 1, h, o, hh, ho, ht, hl, hm => by
    by_cases q : inN g h ∧ h ∉ o
    · have hs : S h := by
        rcases hh with rfl | k
        · exact absurd q.1 (no_0 g)
        · exact k
      have hin : A h ∉ o.map A := fun x => q.2 ((H.mem hh ho).1 x)
      rw [vis_yes q.1 q.2, Go.Proofs.YtanhhkdoejnpiaaGreat.vis_yes (H.re h hs) hin, H.ptv hs]
      have t1 : Told g (o ++ [h]) := ⟨by
        rw [List.nodup_append]
        exact ⟨ht.nd, by simp, fun a ha b hb e => q.2 (by rw [List.mem_singleton] at hb; subst hb; subst e; exact ha)⟩, fun x hx => by
        rcases List.mem_append.1 hx with y | y
        · exact ht.inn x y
        · rw [List.mem_singleton.1 y]; exact q.1⟩
      have hlt := lft_snoc (H.re h hs) hin
      have := fold_hold H (fun h o a b c d e => vis_hold H f f' h o a b c d e) (ptrs (ndOf g h)) (o ++ [h]) (H.cl h hs) (fun x hx => by
        rcases List.mem_append.1 hx with y | y
        · exact ho x y
        · rw [List.mem_singleton.1 y]; exact hs) t1 (by simp; omega) (by rw [List.map_append]; show m.lft (o.map A ++ [A h]) < f'; omega)
      rwa [List.map_append] at this
    · rw [vis_no q, Go.Proofs.YtanhhkdoejnpiaaGreat.vis_no]
      · exact ⟨rfl, ho⟩
      · rcases hh with rfl | k
        · rw [H.z]; exact .inl (real_0 m)
        · exact .inr ((H.mem (.inr k) ho).2 (Classical.byContradiction fun z => q ⟨H.inn h k, z⟩))
theorem Hold.rch (H : Hold m g A S) (hn : g.1.length ≤ 1000) (hs : List Int) (hh : ∀ h ∈ hs, h = 0 ∨ S h) : m.rch (hs.map A) = (vall g 1001 hs []).map A ∧ ∀ x ∈ vall g 1001 hs [], S x := by
  have := lft_le m (([] : List Int).map A)
  exact fold_hold H (fun h o a b c d e => vis_hold H 1001 (2 * m.n + 1) h o a b c d e) hs [] hh (fun x hx => by cases hx) ⟨by simp, fun x hx => by cases hx⟩ (by simp; omega) (by omega)
theorem Hold.pl (H : Hold m g A S) {o : List Int} (ho : ∀ m ∈ o, S m) {h : Int} (k : h = 0 ∨ S h) : pl (o.map A) (A h) = pl o h := by
  unfold Go.Proofs.YtanhhkdoejnpiaaGreat.G.pl
  by_cases q : h ∈ o
  · rw [if_pos q, if_pos ((H.mem k ho).2 q), idx_map (fun x hx e => H.inj' (.inr (ho x hx)) k e)]
  · rw [if_neg q, if_neg (fun x => q ((H.mem k ho).1 x))]
/-- Memory that holds a graph has it, in order. -/
theorem Hold.of (H : Hold m g A S) (hn : g.1.length ≤ 1000) (hr : ∀ row ∈ g.2, ∀ h ∈ row, h = 0 ∨ S h) : m.rch (g.2.map fun row => row.map A).flatten = (ord g).map A ∧ ofG m (g.2.map fun row => row.map A) = canon g ∧ ofB m (g.2.map fun row => row.map A) = true := by
  have hf : (g.2.map fun row => row.map A).flatten = g.2.flatten.map A := by rw [← List.map_flatten]
  have hh : ∀ h ∈ g.2.flatten, h = 0 ∨ S h := fun h hh => by
    obtain ⟨row, h1, h2⟩ := List.mem_flatten.1 hh
    exact hr row h1 h h2
  obtain ⟨e, k⟩ := H.rch hn g.2.flatten hh
  have M := ord_more hn
  have hp := fun h (q : h = 0 ∨ S h) => H.pl k q
  have e0 : m.rch (g.2.map fun row => row.map A).flatten = (ord g).map A := by rw [hf, e]; rfl
  refine ⟨e0, ?_, ?_⟩
  · unfold ofG canon
    rw [e0]
    refine Prod.ext ?_ ?_
    · show ((ord g).map A).map _ = _
      rw [List.map_map]
      refine List.map_congr_left fun h hh => ?_
      show mpF _ (ndm m (A h)) = _
      rw [H.nd h (k h hh)]
      exact mp_mp fun i hi hpi => hp _ (H.cl h (k h hh) _ (mem_ptrs hi hpi))
    · show (g.2.map _).map _ = _
      rw [List.map_map]
      refine List.map_congr_left fun row hrow => ?_
      show (row.map A).map _ = _
      rw [List.map_map]
      exact List.map_congr_left fun h hh => hp h (hr row hrow h hh)
  · rw [ofB_true, e0, hf]
    have z0 : ∀ h, (h = 0 ∨ S h) → (inN g h → h ∈ ord g) → A h = 0 ∨ A h ∈ (ord g).map A := fun h q w => by
      rcases q with rfl | q
      · exact .inl H.z
      · exact .inr (List.mem_map_of_mem (w (H.inn h q)))
    refine ⟨fun a ha => ?_, fun a ha b hb => ?_⟩
    · obtain ⟨h, h1, rfl⟩ := List.mem_map.1 ha
      exact z0 h (hh h h1) (M.hs h h1)
    · obtain ⟨h, h1, rfl⟩ := List.mem_map.1 ha
      rw [H.ptv (k h h1)] at hb
      obtain ⟨v, h2, rfl⟩ := List.mem_map.1 hb
      exact z0 v (H.cl h (k h h1) v h2) (M.cl h h1 (by simp) v h2)
end
end Go.Proofs.YtanhhkdoejnpiaaGreat.G
