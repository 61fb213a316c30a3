/- What is reached, in order, plainly: depth first; what is done on one graph and on another that is the same but for its numbers. -/
import Derived.Test.YtlocllcijncllaaPe
namespace Go.Proofs.Ytlocllcijncllaa
open Go.Joins Go.ChangeShapes Go.WideShapes Go.ChangeAt Go.RowKit Go.Deep Go.Shelf Go.Maps
set_option linter.unusedVariables false
set_option linter.unusedSimpArgs false

/-- A node's fields that lead to objects, by their places. -/
def pix (n : Nd) : List Nat := (List.range n.2.length).filter fun (i : Nat) => isP n (i : Int)
def ptrs (n : Nd) : List Int := (pix n).map fun i => n.2.getD i 0
/-- What is reached from a node, behind what is told. -/
def vis (g : Gr) : Nat → Int → List Int → List Int
  | 0, _, o => o
  | f + 1, h, o => if inN g h ∧ h ∉ o then (ptrs (ndOf g h)).foldl (fun o v => vis g f v o) (o ++ [h]) else o
def vall (g : Gr) (f : Nat) (hs : List Int) (o : List Int) : List Int := hs.foldl (fun o h => vis g f h o) o
theorem vis_yes {g : Gr} {f : Nat} {h : Int} {o : List Int} (a : inN g h) (b : h ∉ o) : vis g (f + 1) h o = vall g f (ptrs (ndOf g h)) (o ++ [h]) := if_pos ⟨a, b⟩
theorem vis_no {g : Gr} {f : Nat} {h : Int} {o : List Int} (a : ¬ (inN g h ∧ h ∉ o)) : vis g (f + 1) h o = o := if_neg a
def ord (g : Gr) : List Int := vall g 101 g.2.flatten []
/-- A node's place among those told. -/
def pl (o : List Int) (h : Int) : Int := if h ∈ o then (o.idxOf h : Int) + 1 else 0
/-- A node, whose pointers lead elsewhere. -/
def mpF (F : Int → Int) (n : Nd) : Nd := (n.1, (List.range n.2.length).map fun (i : Nat) => if isP n (i : Int) then F (n.2.getD i 0) else n.2.getD i 0)
def canon (g : Gr) : Gr := ((ord g).map fun h => mpF (pl (ord g)) (ndOf g h), g.2.map fun row => row.map (pl (ord g)))

theorem mp_len (F : Int → Int) (n : Nd) : (mpF F n).2.length = n.2.length := by simp [mpF]
theorem mp_isP (F : Int → Int) (n : Nd) (i : Int) : isP (mpF F n) i = isP n i := rfl
theorem mp_at (F : Int → Int) (n : Nd) {i : Nat} (h : i < n.2.length) : (mpF F n).2.getD i 0 = if isP n (i : Int) then F (n.2.getD i 0) else n.2.getD i 0 := by
  simp [mpF, List.getD, h]
theorem mp_mp {F G K : Int → Int} {n : Nd} (h : ∀ i, i < n.2.length → isP n (i : Int) = true → G (F (n.2.getD i 0)) = K (n.2.getD i 0)) : mpF G (mpF F n) = mpF K n := by
  refine Prod.ext rfl ?_
  show (List.range (mpF F n).2.length).map _ = (List.range n.2.length).map _
  rw [mp_len]
  refine List.map_congr_left fun i hi => ?_
  have hi := List.mem_range.1 hi
  rw [mp_isP, mp_at F n hi]
  by_cases q : isP n (i : Int) = true
  · rw [if_pos q, if_pos q, if_pos q]; exact h i hi q
  · rw [if_neg q, if_neg q, if_neg q]
theorem mp_eq {F G : Int → Int} {n : Nd} (h : ∀ i, i < n.2.length → isP n (i : Int) = true → F (n.2.getD i 0) = G (n.2.getD i 0)) : mpF F n = mpF G n := by
  refine Prod.ext rfl (List.map_congr_left fun i hi => ?_)
  by_cases q : isP n (i : Int) = true
  · rw [if_pos q, if_pos q]; exact h i (List.mem_range.1 hi) q
  · rw [if_neg q, if_neg q]
theorem mp_ptrs (F : Int → Int) (n : Nd) : ptrs (mpF F n) = (ptrs n).map F := by
  unfold ptrs pix
  rw [mp_len, List.map_map]
  refine List.map_congr_left fun i hi => ?_
  obtain ⟨h1, h2⟩ := List.mem_filter.1 hi
  have h3 : isP n (i : Int) = true := h2
  rw [mp_at F n (List.mem_range.1 h1), if_pos h3]
  rfl
theorem ptrs_mem {n : Nd} {v : Int} (h : v ∈ ptrs n) : ∃ i, i < n.2.length ∧ isP n (i : Int) = true ∧ v = n.2.getD i 0 := by
  obtain ⟨i, hi, rfl⟩ := List.mem_map.1 h
  obtain ⟨h1, h2⟩ := List.mem_filter.1 hi
  exact ⟨i, List.mem_range.1 h1, h2, rfl⟩
theorem mem_ptrs {n : Nd} {i : Nat} (h : i < n.2.length) (k : isP n (i : Int) = true) : n.2.getD i 0 ∈ ptrs n :=
  List.mem_map.2 ⟨i, List.mem_filter.2 ⟨List.mem_range.2 h, k⟩, rfl⟩

/-! ### Depth first -/
theorem pigeon {N : Nat} {o : List Int} (h : o.Nodup) (k : ∀ m ∈ o, 1 ≤ m ∧ m ≤ (N : Int)) : o.length ≤ N := by
  induction N generalizing o with
  | zero =>
    cases o with
    | nil => simp
    | cons a r => have := k a (by simp); omega
  | succ N ih =>
    have h2 := ih (o := o.erase ((N : Int) + 1)) (h.erase _) (fun m hm => by
      have q := k m (List.mem_of_mem_erase hm)
      have : m ≠ (N : Int) + 1 := fun e => by
        subst e
        exact (List.Nodup.not_mem_erase h) hm
      push_cast at q
      omega)
    have := List.length_erase (a := (N : Int) + 1) (l := o)
    split at this <;> omega
structure Told (g : Gr) (o : List Int) : Prop where
  nd : o.Nodup
  inn : ∀ m ∈ o, inN g m
theorem Told.len {g : Gr} {o : List Int} (h : Told g o) : o.length ≤ g.1.length := pigeon h.nd h.inn
/-- What is told, and what is told anew: it leads to what is told. -/
structure More (g : Gr) (hs o o' : List Int) : Prop where
  pre : o <+: o'
  td : Told g o'
  hs : ∀ h ∈ hs, inN g h → h ∈ o'
  cl : ∀ m ∈ o', m ∉ o → ∀ v ∈ ptrs (ndOf g m), inN g v → v ∈ o'
theorem vall_more {g : Gr} {f : Nat} (H : ∀ h o, Told g o → g.1.length < f + o.length → More g [h] o (vis g f h o)) : ∀ (hs o : List Int), Told g o → g.1.length < f + o.length → More g hs o (vall g f hs o)
  | [], o, ho, _ => ⟨List.prefix_refl _, ho, fun h hh => (by cases hh), fun m h1 h2 => absurd h1 h2⟩
  | h :: r, o, ho, hl => by
    have m1 := H h o ho hl
    have hle := m1.pre.length_le
    have m2 := vall_more H r (vis g f h o) m1.td (by omega)
    refine ⟨m1.pre.trans m2.pre, m2.td, fun x hx hn => ?_, fun m a b v hv hn => ?_⟩
    · rcases List.mem_cons.1 hx with rfl | q
      · exact m2.pre.subset (m1.hs _ (by simp) hn)
      · exact m2.hs x q hn
    · by_cases q : m ∈ vis g f h o
      · exact m2.pre.subset (m1.cl m q b v hv hn)
      · exact m2.cl m a q v hv hn
theorem vis_more (g : Gr) : ∀ (f : Nat) (h : Int) (o : List Int), Told g o → g.1.length < f + o.length → More g [h] o (vis g f h o)
  | 0, h, o, ho, hl => by have := ho.len; omega
  | f + 1, h, o, ho, hl => by
    by_cases q : inN g h ∧ h ∉ o
    · rw [vis_yes q.1 q.2]
      have t1 : Told g (o ++ [h]) := ⟨by
        rw [List.nodup_append]
        exact ⟨ho.nd, by simp, fun a ha b hb e => q.2 (by rw [List.mem_singleton] at hb; subst hb; subst e; exact ha)⟩, fun m hm => by
        rcases List.mem_append.1 hm with x | x
        · exact ho.inn m x
        · rw [List.mem_singleton.1 x]; exact q.1⟩
      have m1 := vall_more (vis_more g f) (ptrs (ndOf g h)) (o ++ [h]) t1 (by simp; omega)
      refine ⟨(List.prefix_append o [h]).trans m1.pre, m1.td, fun x hx _ => ?_, fun m a b v hv hn => ?_⟩
      · rw [List.mem_singleton.1 hx]
        exact m1.pre.subset (by simp)
      · by_cases e : m = h
        · subst e; exact m1.hs v hv hn
        · exact m1.cl m a (by simp [b, e]) v hv hn
    · rw [vis_no q]
      refine ⟨List.prefix_refl _, ho, fun x hx hn => ?_, fun m h1 h2 => absurd h1 h2⟩
      rw [List.mem_singleton.1 hx] at hn ⊢
      by_cases z : h ∈ o
      · exact z
      · exact absurd ⟨hn, z⟩ q
theorem ord_more {g : Gr} (h : g.1.length ≤ 100) : More g g.2.flatten [] (ord g) :=
  vall_more (vis_more g 101) _ _ ⟨by simp, fun m hm => (by cases hm)⟩ (by simp; omega)

/-! ### The same but for the numbers -/
structure Iso (F : Int → Int) (S : Int → Prop) (g c : Gr) : Prop where
  z : F 0 = 0
  inn : ∀ h, S h → inN g h
  inj : ∀ a b, S a → S b → F a = F b → a = b
  im : ∀ h, S h → inN c (F h)
  cl : ∀ h, S h → ∀ v ∈ ptrs (ndOf g h), v = 0 ∨ S v
  nd : ∀ h, S h → ndOf c (F h) = mpF F (ndOf g h)
  row : ∀ row ∈ g.2, ∀ h ∈ row, h = 0 ∨ S h
  st : c.2 = g.2.map fun row => row.map F
section
variable {F : Int → Int} {S : Int → Prop} {g c : Gr}
theorem no_0 (g : Gr) : ¬ inN g 0 := fun h => by have := h.1; omega
theorem Iso.inn' (H : Iso F S g c) {h : Int} (k : h = 0 ∨ S h) : inN c (F h) ↔ inN g h := by
  rcases k with rfl | k
  · rw [H.z]; exact ⟨fun q => absurd q (no_0 c), fun q => absurd q (no_0 g)⟩
  · exact ⟨fun _ => H.inn h k, fun _ => H.im h k⟩
theorem Iso.inj' (H : Iso F S g c) {a b : Int} (ha : a = 0 ∨ S a) (hb : b = 0 ∨ S b) (e : F a = F b) : a = b := by
  rcases ha with rfl | ha <;> rcases hb with rfl | hb
  · rfl
  · rw [H.z] at e
    have := H.im b hb
    rw [← e] at this
    exact absurd this (no_0 c)
  · rw [H.z] at e
    have := H.im a ha
    rw [e] at this
    exact absurd this (no_0 c)
  · exact H.inj a b ha hb e
theorem Iso.mem (H : Iso F S g c) {h : Int} {o : List Int} (k : h = 0 ∨ S h) (ho : ∀ m ∈ o, S m) : F h ∈ o.map F ↔ h ∈ o := by
  refine ⟨fun q => ?_, fun q => List.mem_map_of_mem q⟩
  obtain ⟨m, hm, e⟩ := List.mem_map.1 q
  rw [← H.inj' (.inr (ho m hm)) k e]
  exact hm
theorem vall_iso (H : Iso F S g c) {f : Nat} (V : ∀ h o, (h = 0 ∨ S h) → (∀ m ∈ o, S m) → vis c f (F h) (o.map F) = (vis g f h o).map F ∧ ∀ m ∈ vis g f h o, S m) :
    ∀ (hs o : List Int), (∀ h ∈ hs, h = 0 ∨ S h) → (∀ m ∈ o, S m) → vall c f (hs.map F) (o.map F) = (vall g f hs o).map F ∧ ∀ m ∈ vall g f hs o, S m
  | [], o, _, ho => ⟨rfl, ho⟩
  | h :: r, o, hh, ho => by
    obtain ⟨e, k⟩ := V h o (hh h (by simp)) ho
    obtain ⟨e2, k2⟩ := vall_iso H V r (vis g f h o) (fun x hx => hh x (by simp [hx])) k
    refine ⟨?_, k2⟩
    show vall c f (r.map F) (vis c f (F h) (o.map F)) = _
    rw [e]
    exact e2
theorem vis_iso (H : Iso F S g c) : ∀ (f : Nat) (h : Int) (o : List Int), (h = 0 ∨ S h) → (∀ m ∈ o, S m) → vis c f (F h) (o.map F) = (vis g f h o).map F ∧ ∀ m ∈ vis g f h o, S m
  | 0, h, o, _, ho => ⟨rfl, ho⟩
  | f + 1, h, o, hh, ho => by
    by_cases q : inN g h ∧ h ∉ o
    · have hs : S h := by
        rcases hh with rfl | k
        · exact absurd q.1 (no_0 g)
        · exact k
      have q2 : inN c (F h) ∧ F h ∉ o.map F := ⟨(H.inn' hh).2 q.1, fun x => q.2 ((H.mem hh ho).1 x)⟩
      rw [vis_yes q.1 q.2, vis_yes q2.1 q2.2, H.nd h hs, mp_ptrs]
      have := vall_iso H (vis_iso H f) (ptrs (ndOf g h)) (o ++ [h]) (H.cl h hs) (fun m hm => by
        rcases List.mem_append.1 hm with x | x
        · exact ho m x
        · rw [List.mem_singleton.1 x]; exact hs)
      rwa [List.map_append] at this
    · have q2 : ¬ (inN c (F h) ∧ F h ∉ o.map F) := fun x => q ⟨(H.inn' hh).1 x.1, fun y => x.2 ((H.mem hh ho).2 y)⟩
      rw [vis_no q, vis_no q2]
      exact ⟨rfl, ho⟩
theorem Iso.ord (H : Iso F S g c) : ord c = (ord g).map F ∧ ∀ m ∈ ord g, S m := by
  unfold Go.Proofs.Ytlocllcijncllaa.ord
  rw [H.st, ← List.map_flatten]
  exact vall_iso H (vis_iso H 101) _ [] (fun h hh => by
    obtain ⟨row, h1, h2⟩ := List.mem_flatten.1 hh
    exact H.row row h1 h h2) (fun m hm => (by cases hm))
theorem idx_map {o : List Int} {h : Int} (k : ∀ m ∈ o, F m = F h → m = h) : (o.map F).idxOf (F h) = o.idxOf h := by
  induction o with
  | nil => rfl
  | cons a r ih =>
    simp only [List.map_cons, List.idxOf_cons]
    by_cases e : a = h
    · subst e; simp
    · have : F a ≠ F h := fun q => e (k a (by simp) q)
      have e1 : (F a == F h) = false := by simpa using this
      have e2 : (a == h) = false := by simpa using e
      rw [e1, e2, cond_false, cond_false, ih (fun m hm => k m (by simp [hm]))]
theorem Iso.pl (H : Iso F S g c) {o : List Int} (ho : ∀ m ∈ o, S m) {h : Int} (k : h = 0 ∨ S h) : pl (o.map F) (F h) = pl o h := by
  unfold Go.Proofs.Ytlocllcijncllaa.pl
  by_cases q : h ∈ o
  · rw [if_pos q, if_pos ((H.mem k ho).2 q), idx_map (fun m hm e => H.inj' (.inr (ho m hm)) k e)]
  · rw [if_neg q, if_neg (fun x => q ((H.mem k ho).1 x))]
/-- Graphs that are the same but for their numbers come to the same in order. -/
theorem Iso.canon (H : Iso F S g c) : canon c = canon g := by
  obtain ⟨e, k⟩ := H.ord
  have hp := fun h (q : h = 0 ∨ S h) => H.pl k q
  unfold Go.Proofs.Ytlocllcijncllaa.canon
  rw [e]
  refine Prod.ext ?_ ?_
  · show ((Go.Proofs.Ytlocllcijncllaa.ord g).map F).map _ = _
    rw [List.map_map]
    refine List.map_congr_left fun h hh => ?_
    show mpF _ (ndOf c (F h)) = _
    rw [H.nd h (k h hh)]
    exact mp_mp fun i hi hpi => hp _ (H.cl h (k h hh) _ (mem_ptrs hi hpi))
  · show c.2.map _ = _
    rw [H.st, List.map_map]
    refine List.map_congr_left fun row hr => ?_
    show (row.map F).map _ = _
    rw [List.map_map]
    exact List.map_congr_left fun h hh => hp h (H.row row hr h hh)
end
/-! ### In order is the same but for the numbers -/
theorem pl_in {o : List Int} {h : Int} (k : h ∈ o) : 1 ≤ pl o h ∧ pl o h ≤ o.length ∧ o.getD ((pl o h).toNat - 1) 0 = h := by
  have := List.idxOf_lt_length_of_mem k
  unfold pl
  rw [if_pos k]
  refine ⟨by omega, by omega, ?_⟩
  rw [show ((o.idxOf h : Int) + 1).toNat - 1 = o.idxOf h from by omega]
  simp [List.getD, List.getElem?_eq_getElem this]
theorem canon_iso {g : Gr} (hR : Rg g) (hn : g.1.length ≤ 100) : Iso (pl (ord g)) (· ∈ ord g) g (canon g) := by
  have M := ord_more hn
  have h0 : (0 : Int) ∉ ord g := fun q => no_0 g (M.td.inn 0 q)
  refine ⟨?_, M.td.inn, fun a b ha hb e => ?_, fun h hh => ?_, fun h hh v hv => ?_, fun h hh => ?_, fun row hr h hh => ?_, rfl⟩
  · unfold pl; rw [if_neg h0]
  · rw [← (pl_in ha).2.2, ← (pl_in hb).2.2, e]
  · obtain ⟨a, b, _⟩ := pl_in hh
    exact ⟨a, by show pl (ord g) h ≤ (((ord g).map _).length : Nat); rw [List.length_map]; exact b⟩
  · obtain ⟨i, hi, hp, rfl⟩ := ptrs_mem hv
    have hin := M.td.inn h hh
    have f1 := (hR.fu _ (ndOf_mem hin) _ (getD_mem 0 hi)).1
    have f2 := hR.pt _ (ndOf_mem hin) i hi hp
    rcases Int.lt_or_eq_of_le f1 with q | q
    · exact .inr (M.cl h hh (by simp) _ hv ⟨by omega, f2⟩)
    · exact .inl q.symm
  · obtain ⟨a, b, e⟩ := pl_in hh
    show ((ord g).map _).getD _ _ = _
    have hl : (pl (ord g) h).toNat - 1 < (ord g).length := by omega
    have e2 := e
    simp only [List.getD, List.getElem?_eq_getElem hl, Option.getD_some] at e2
    simp only [List.getD, List.getElem?_map, List.getElem?_eq_getElem hl, Option.map_some, Option.getD_some, e2]
  · have := hR.hn row hr h hh
    rcases Int.lt_or_eq_of_le this.1 with q | q
    · exact .inr (M.hs h (List.mem_flatten.2 ⟨row, hr, hh⟩) ⟨by omega, this.2⟩)
    · exact .inl q.symm
theorem canon_canon {g : Gr} (hR : Rg g) (hn : g.1.length ≤ 100) : canon (canon g) = canon g := (canon_iso hR hn).canon
end Go.Proofs.Ytlocllcijncllaa
