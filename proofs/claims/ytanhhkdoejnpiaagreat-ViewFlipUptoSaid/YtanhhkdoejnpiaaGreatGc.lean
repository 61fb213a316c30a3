/- What is reached in a graph, plainly. -/
import Derived.Test.YtanhhkdoejnpiaaGreatGb
/-! Of stage 15 -/
namespace Go.Proofs.YtanhhkdoejnpiaaGreat.G
open Go.Joins Go.ChangeShapes Go.WideShapes Go.ChangeAt Go.RowKit Go.Deep Go.Shelf Go.Maps
set_option linter.unusedVariables false
set_option linter.unusedSimpArgs false

/-- A node's fields that lead to objects, by their places. -/
def pix (n : Nd) : List Nat := (List.range n.2.length).filter fun (i : Nat) => isP n (i : Int)
def ptrs (n : Nd) : List Int := (pix n).map fun i => n.2.getD i 0
/-- What is reached from a node, behind what is told. -/
def vis (g : Gr) : Nat → Int → List Int → List Int
  | 0, _, o => o
  | f + 1, h, o => if inN g h ∧ h ∉ o then (ptrs (ndOf g h)).foldl (fun o v => vis g f v o) (o ++ [h]) else o
def vall (g : Gr) (f : Nat) (hs : List Int) (o : List Int) : List Int := hs.foldl (fun o h => vis g f h o) o
theorem vis_yes {g : Gr} {f : Nat} {h : Int} {o : List Int} (a : inN g h) (b : h ∉ o) : vis g (f + 1) h o = vall g f (ptrs (ndOf g h)) (o ++ [h]) := if_pos ⟨a, b⟩
theorem vis_no {g : Gr} {f : Nat} {h : Int} {o : List Int} (a : ¬ (inN g h ∧ h ∉ o)) : vis g (f + 1) h o = o := if_neg a
def ord (g : Gr) : List Int := vall g 1001 g.2.flatten []
/-- A node's place among those told. -/
def pl (o : List Int) (h : Int) : Int := if h ∈ o then (o.idxOf h : Int) + 1 else 0
/-- A node, whose pointers lead elsewhere. -/
def mpF (F : Int → Int) (n : Nd) : Nd := (n.1, (List.range n.2.length).map fun (i : Nat) => if isP n (i : Int) then F (n.2.getD i 0) else n.2.getD i 0)
def canon (g : Gr) : Gr := ((ord g).map fun h => mpF (pl (ord g)) (ndOf g h), g.2.map fun row => row.map (pl (ord g)))

theorem mp_len (F : Int → Int) (n : Nd) : (mpF F n).2.length = n.2.length := by simp [mpF]
theorem mp_isP (F : Int → Int) (n : Nd) (i : Int) : isP (mpF F n) i = isP n i := rfl
theorem mp_at (F : Int → Int) (n : Nd) {i : Nat} (h : i < n.2.length) : (mpF F n).2.getD i 0 = if isP n (i : Int) then F (n.2.getD i 0) else n.2.getD i 0 := by
  simp [mpF, List.getD, h]
theorem mp_mp {F G K : Int → Int} {n : Nd} (h : ∀ i, i < n.2.length → isP n (i : Int) = true → G (F (n.2.getD i 0)) = K (n.2.getD i 0)) : mpF G (mpF F n) = mpF K n := by
  refine Prod.ext rfl ?_
  show (List.range (mpF F n).2.length).map _ = (List.range n.2.length).map _
  rw [mp_len]
  refine List.map_congr_left fun i hi => ?_
  have hi := List.mem_range.1 hi
  rw [mp_isP, mp_at F n hi]
  by_cases q : isP n (i : Int) = true
  · rw [if_pos q, if_pos q, if_pos q]; exact h i hi q
  · rw [if_neg q, if_neg q, if_neg q]
theorem mp_eq {F G : Int → Int} {n : Nd} (h : ∀ i, i < n.2.length → isP n (i : Int) = true → F (n.2.getD i 0) = G (n.2.getD i 0)) : mpF F n = mpF G n := by
  refine Prod.ext rfl (List.map_congr_left fun i hi => ?_)
  by_cases q : isP n (i : Int) = true
  · rw [if_pos q, if_pos q]; exact h i (List.mem_range.1 hi) q
  · rw [if_neg q, if_neg q]
theorem mp_ptrs (F : Int → Int) (n : Nd) : ptrs (mpF F n) = (ptrs n).map F := by
  unfold ptrs pix
  rw [mp_len, List.map_map]
  refine List.map_congr_left fun i hi => ?_
  obtain ⟨h1, h2⟩ := List.mem_filter.1 hi
  have h3 : isP n (i : Int) = true := h2
  rw [mp_at F n (List.mem_range.1 h1), if_pos h3]
  rfl
theorem ptrs_mem {n : Nd} {v : Int} (h : v ∈ ptrs n) : ∃ i, i < n.2.length ∧ isP n (i : Int) = true ∧ v = n.2.getD i 0 := by
  obtain ⟨i, hi, rfl⟩ := List.mem_map.1 h
  obtain ⟨h1, h2⟩ := List.mem_filter.1 hi
  exact ⟨i, List.mem_range.1 h1, h2, rfl⟩
theorem mem_ptrs {n : Nd} {i : Nat} (h : i < n.2.length) (k : isP n (i : Int) = true) : n.2.getD i 0 ∈ ptrs n :=
  List.mem_map.2 ⟨i, List.mem_filter.2 ⟨List.mem_range.2 h, k⟩, rfl⟩

/-! ### Depth first -/
theorem pigeon {N : Nat} {o : List Int} (h : o.Nodup) (k : ∀ m ∈ o, 1 ≤ m ∧ m ≤ (N : Int)) : o.length ≤ N := by
  induction N generalizing o with
  | zero =>
    cases o with
    | nil => simp
    | cons a r => have := k a (by simp); omega
  | succ N ih =>
    have h2 := ih (o := o.erase ((N : Int) + 1)) (h.erase _) (fun m hm => by
      have q := k m (List.mem_of_mem_erase hm)
      have : m ≠ (N : Int) + 1 := fun e => by
        subst e
        exact (List.Nodup.not_mem_erase h) hm
      push_cast at q
      omega)
    have := List.length_erase (a := (N : Int) + 1) (l := o)
    split at this <;> omega
structure Told (g : Gr) (o : List Int) : Prop where
  nd : o.Nodup
  inn : ∀ m ∈ o, inN g m
theorem Told.len {g : Gr} {o : List Int} (h : Told g o) : o.length ≤ g.1.length := pigeon h.nd h.inn
/-- What is told, and what is told anew: it leads to what is told. -/
structure More (g : Gr) (hs o o' : List Int) : Prop where
  pre : o <+: o'
  td : Told g o'
  hs : ∀ h ∈ hs, inN g h → h ∈ o'
  cl : ∀ m ∈ o', m ∉ o → ∀ v ∈ ptrs (ndOf g m), inN g v → v ∈ o'
theorem vall_more {g : Gr} {f : Nat} (H : ∀ h o, Told g o → g.1.length < f + o.length → More g [h] o (vis g f h o)) : ∀ (hs o : List Int), Told g o → g.1.length < f + o.length → More g hs o (vall g f hs o)
  | [], o, ho, _ => ⟨List.prefix_refl _, ho, fun h hh => (by cases hh), fun m h1 h2 => absurd h1 h2⟩
  | h :: r, o, ho, hl => by
    have m1 := H h o ho hl
    have hle := m1.pre.length_le
    have m2 := vall_more H r (vis g f h o) m1.td (by omega)
    refine ⟨m1.pre.trans m2.pre, m2.td, fun x hx hn => ?_, fun m a b v hv hn => ?_⟩
    · rcases List.mem_cons.1 hx with rfl | q
      · exact m2.pre.subset (m1.hs _ (by simp) hn)
      · exact m2.hs x q hn
    · by_cases q : m ∈ vis g f h o
      · exact m2.pre.subset (m1.cl m q b v hv hn)
      · exact m2.cl m a q v hv hn
theorem vis_more (g : Gr) : ∀ (f : Nat) (h : Int) (o : List Int), Told g o → g.1.length < f + o.length → More g [h] o (vis g f h o)
  | 0, h, o, ho, hl => by have := ho.len; omega
  | f + 1, h, o, ho, hl => by
    by_cases q : inN g h ∧ h ∉ o
    · rw [vis_yes q.1 q.2]
      have t1 : Told g (o ++ [h]) := ⟨by
        rw [List.nodup_append]
        exact ⟨ho.nd, by simp, fun a ha b hb e => q.2 (by rw [List.mem_singleton] at hb; subst hb; subst e; exact ha)⟩, fun m hm => by
        rcases List.mem_append.1 hm with x | x
        · exact ho.inn m x
        · rw [List.mem_singleton.1 x]; exact q.1⟩
      have m1 := vall_more (vis_more g f) (ptrs (ndOf g h)) (o ++ [h]) t1 (by simp; omega)
      refine ⟨(List.prefix_append o [h]).trans m1.pre, m1.td, fun x hx _ => ?_, fun m a b v hv hn => ?_⟩
      · rw [List.mem_singleton.1 hx]
        exact m1.pre.subset (by simp)
      · by_cases e : m = h
        · subst e; exact m1.hs v hv hn
        · exact m1.cl m a (by simp [b, e]) v hv hn
    · rw [vis_no q]
      refine ⟨List.prefix_refl _, ho, fun x hx hn => ?_, fun m h1 h2 => absurd h1 h2⟩
      rw [List.mem_singleton.1 hx] at hn ⊢
      by_cases z : h ∈ o
      · exact z
      · exact absurd ⟨hn, z⟩ q
theorem ord_more {g : Gr} (h : g.1.length ≤ 1000) : More g g.2.flatten [] (ord g) :=
  vall_more (vis_more g 1001) _ _ ⟨by simp, fun m hm => (by cases hm)⟩ (by simp; omega)

/-! ### The same but for the numbers -/
structure Iso (F : Int → Int) (S : Int → Prop) (g c : Gr) : Prop where
  z : F 0 = 0
  inn : ∀ h, S h → inN g h
  inj : ∀ a b, S a → S b → F a = F b → a = b
  im : ∀ h, S h → inN c (F h)
  cl : ∀ h, S h → ∀ v ∈ ptrs (ndOf g h), v = 0 ∨ S v
  nd : ∀ h, S h → ndOf c (F h) = mpF F (ndOf g h)
  row : ∀ row ∈ g.2, ∀ h ∈ row, h = 0 ∨ S h
  st : c.2 = g.2.map fun row => row.map F
section
variable {F : Int → Int} {S : Int → Prop} {g c : Gr}
theorem no_0 (g : Gr) : ¬ inN g 0 := fun h => by have := h.1; omega
theorem Iso.inn' (H : Iso F S g c) {h : Int} (k : h = 0 ∨ S h) : inN c (F h) ↔ inN g h := by
  rcases k with rfl | k
  · rw [H.z]; exact ⟨fun q => absurd q (no_0 c), fun q => absurd q (no_0 g)⟩
  · exact ⟨fun _ => H.inn h k, fun _ => H.im h k⟩
theorem Iso.inj' (H : Iso F S g c) {a b : Int} (ha : a = 0 ∨ S a) (hb : b = 0 ∨ S b) (e : F a = F b) : a = b := by
  rcases ha with rfl | ha <;> rcases hb with rfl | hb
  · rfl
  · rw [H.z] at e
    have := H.im b hb
    rw [← e] at this
    exact absurd this (no_0 c)
  · rw [H.z] at e
    have := H.im a ha
    rw [e] at this
    exact absurd this (no_0 c)
  · exact H.inj a b ha hb e
theorem Iso.mem (H : Iso F S g c) {h : Int} {o : List Int} (k : h = 0 ∨ S h) (ho : ∀ m ∈ o, S m) : F h ∈ o.map F ↔ h ∈ o := by
  refine ⟨fun q => ?_, fun q => List.mem_map_of_mem q⟩
  obtain ⟨m, hm, e⟩ := List.mem_map.1 q
  rw [← H.inj' (.inr (ho m hm)) k e]
  exact hm
theorem vall_iso (H : Iso F S g c) {f : Nat} (V : ∀ h o, (h = 0 ∨ S h) → (∀ m ∈ o, S m) → vis c f (F h) (o.map F) = (vis g f h o).map F ∧ ∀ m ∈ vis g f h o, S m) :
    ∀ (hs o : List Int), (∀ h ∈ hs, h = 0 ∨ S h) → (∀ m ∈ o, S m) → vall c f (hs.map F) (o.map F) = (vall g f hs o).map F ∧ ∀ m ∈ vall g f hs o, S m
  | [], o, _, ho => ⟨rfl, ho⟩
  | h :: r, o, hh, ho => by
    obtain ⟨e, k⟩ := V h o (hh h (by simp)) ho
    obtain ⟨e2, k2⟩ := vall_iso H V r (vis g f h o) (fun x hx => hh x (by simp [hx])) k
    refine ⟨?_, k2⟩
    show vall c f (r.map F) (vis c f (F h) (o.map F)) = _
    rw [e]
    exact e2
theorem vis_iso (H : Iso F S g c) : ∀ (f : Nat) (h : Int) (o : List Int), (h = 0 ∨ S h) → (∀ m ∈ o, S m) → vis c f (F h) (o.map F) = (vis g f h o).map F ∧ ∀ m ∈ vis g f h o, S m
  | 0, h, o, _, ho => ⟨rfl, ho⟩
  | f + 1, h, o, hh, ho => by
    by_cases q : inN g h ∧ h ∉ o
    · have hs : S h := by
        rcases hh with rfl | k
        · exact absurd q.1 (no_0 g)
        · exact k
      have q2 : inN c (F h) ∧ F h ∉ o.map F := ⟨(H.inn' hh).2 q.1, fun x => q.2 ((H.mem hh ho).1 x)⟩
      rw [vis_yes q.1 q.2, vis_yes q2.1 q2.2, H.nd h hs, mp_ptrs]
      have := vall_iso H (vis_iso H f) (ptrs (ndOf g h)) (o ++ [h]) (H.cl h hs) (fun m hm => by
        rcases List.mem_append.1 hm with x | x
        · exact ho m x
        · rw [List.mem_singleton.1 x]; exact hs)
      rwa [List.map_append] at this
    · have q2 : ¬ (inN c (F h) ∧ F h ∉ o.map F) := fun x => q ⟨(H.inn' hh).1 x.1, fun y => x.2 ((H.mem hh ho).2 y)⟩
      rw [vis_no q, vis_no q2]
      exact ⟨rfl, ho⟩
theorem Iso.ord (H : Iso F S g c) : ord c = (ord g).map F ∧ ∀ m ∈ ord g, S m := by
  unfold Go.Proofs.YtanhhkdoejnpiaaGreat.G.ord
  rw [H.st, ← List.map_flatten]
  exact vall_iso H (vis_iso H 1001) _ [] (fun h hh => by
    obtain ⟨row, h1, h2⟩ := List.mem_flatten.1 hh
    exact H.row row h1 h h2) (fun m hm => (by cases hm))
theorem idx_map {o : List Int} {h : Int} (k : ∀ m ∈ o, F m = F h → m = h) : (o.map F).idxOf (F h) = o.idxOf h := by
  induction o with
  | nil => rfl
  | cons a r ih =>
    simp only [List.map_cons, List.idxOf_cons]
    by_cases e : a = h
    · subst e; simp
    · have : F a ≠ F h := fun q => e (k a (by simp) q)
      have e1 : (F a == F h) = false := by simpa using this
      have e2 : (a == h) = false := by simpa using e
      rw [e1, e2, cond_false, cond_false, ih (fun m hm => k m (by simp [hm]))]
theorem Iso.pl (H : Iso F S g c) {o : List Int} (ho : ∀ m ∈ o, S m) {h : Int} (k : h = 0 ∨ S h) : pl (o.map F) (F h) = pl o h := by
  unfold Go.Proofs.YtanhhkdoejnpiaaGreat.G.pl
  by_cases q : h ∈ o
  · rw [if_pos q, if_pos ((H.mem k ho).2 q), idx_map (fun m hm e => H.inj' (.inr (ho m hm)) k e)]
  · rw [if_neg q, if_neg (fun x => q ((H.mem k ho).1 x))]
/-- Graphs that are the same but for their numbers come to the same in order. -/
theorem Iso.canon (H : Iso F S g c) : canon c = canon g := by
  obtain ⟨e, k⟩ := H.ord
  have hp := fun h (q : h = 0 ∨ S h) => H.pl k q
  unfold Go.Proofs.YtanhhkdoejnpiaaGreat.G.canon
  rw [e]
  refine Prod.ext ?_ ?_
  · show ((Go.Proofs.YtanhhkdoejnpiaaGreat.G.ord g).map F).map _ = _
    rw [List.map_map]
    refine List.map_congr_left fun h hh => ?_
    show mpF _ (ndOf c (F h)) = _
    rw [H.nd h (k h hh)]
    exact mp_mp fun i hi hpi => hp _ (H.cl h (k h hh) _ (mem_ptrs hi hpi))
  · show c.2.map _ = _
    rw [H.st, List.map_map]
    refine List.map_congr_left fun row hr => ?_
    show (row.map F).map _ = _
    rw [List.map_map]
    exact List.map_congr_left fun h hh => hp h (H.row row hr h hh)
end
/-! ### In order is the same but for the numbers -/
theorem pl_in {o : List Int} {h : Int} (k : h ∈ o) : 1 ≤ pl o h ∧ pl o h ≤ o.length ∧ o.getD ((pl o h).toNat - 1) 0 = h := by
  have := List.idxOf_lt_length_of_mem k
  unfold pl
  rw [if_pos k]
  refine ⟨by omega, by omega, ?_⟩
  rw [show ((o.idxOf h : Int) + 1).toNat - 1 = o.idxOf h from by omega]
  simp [List.getD, List.getElem?_eq_getElem this]
theorem canon_iso {g : Gr} (hR : Rg g) (hn : g.1.length ≤ 1000) : Iso (pl (ord g)) (· ∈ ord g) g (canon g) := by
  have M := ord_more hn
  have h0 : (0 : Int) ∉ ord g := fun q => no_0 g (M.td.inn 0 q)
  refine ⟨?_, M.td.inn, fun a b ha hb e => ?_, fun h hh => ?_, fun h hh v hv => ?_, fun h hh => ?_, fun row hr h hh => ?_, rfl⟩
  · unfold pl; rw [if_neg h0]
  · rw [← (pl_in ha).2.2, ← (pl_in hb).2.2, e]
  · obtain ⟨a, b, _⟩ := pl_in hh
    exact ⟨a, by show pl (ord g) h ≤ (((ord g).map _).length : Nat); rw [List.length_map]; exact b⟩
  · obtain ⟨i, hi, hp, rfl⟩ := ptrs_mem hv
    have hin := M.td.inn h hh
    have f1 := (hR.fu _ (ndOf_mem hin) _ (getD_mem 0 hi)).1
    have f2 := hR.pt _ (ndOf_mem hin) i hi hp
    rcases Int.lt_or_eq_of_le f1 with q | q
    · exact .inr (M.cl h hh (by simp) _ hv ⟨by omega, f2⟩)
    · exact .inl q.symm
  · obtain ⟨a, b, e⟩ := pl_in hh
    show ((ord g).map _).getD _ _ = _
    have hl : (pl (ord g) h).toNat - 1 < (ord g).length := by omega
    have e2 := e
    simp only [List.getD, List.getElem?_eq_getElem hl, Option.getD_some] at e2
    simp only [List.getD, List.getElem?_map, List.getElem?_eq_getElem hl, Option.map_some, Option.getD_some, e2]
  · have := hR.hn row hr h hh
    rcases Int.lt_or_eq_of_le this.1 with q | q
    · exact .inr (M.hs h (List.mem_flatten.2 ⟨row, hr, hh⟩) ⟨by omega, this.2⟩)
    · exact .inl q.symm
theorem canon_canon {g : Gr} (hR : Rg g) (hn : g.1.length ≤ 1000) : canon (canon g) = canon g := (canon_iso hR hn).canon

end Go.Proofs.YtanhhkdoejnpiaaGreat.G
/-! Of stage 15 -/
namespace Go.Proofs.YtanhhkdoejnpiaaGreat.G
open Go.Joins Go.ChangeShapes Go.WideShapes Go.ChangeAt Go.RowKit Go.Deep Go.Shelf Go.Maps
set_option linter.unusedVariables false
set_option linter.unusedSimpArgs false

theorem getD_ext {xs ys : List Int} (hl : xs.length = ys.length) (h : ∀ j, j < xs.length → xs.getD j 0 = ys.getD j 0) : xs = ys := by
  refine List.ext_getElem hl fun j h1 h2 => ?_
  have := h j h1
  simpa [List.getD, List.getElem?_eq_getElem h1, List.getElem?_eq_getElem h2] using this
theorem gte_map (F : Int → Int) (xs : List Int) (h : Int) : gte (xs.map F) h = gte xs h := by unfold gte; rw [List.length_map]
section
variable {F : Int → Int} {S : Int → Prop} {g c : Gr}
theorem Iso.len (H : Iso F S g c) : c.2.length = g.2.length := by rw [H.st, List.length_map]
theorem Iso.th (H : Iso F S g c) (th : Int) : isTh c th ↔ isTh g th := by unfold isTh; rw [H.len]
theorem Iso.rw_ (H : Iso F S g c) (th : Int) : rowOf c th = (rowOf g th).map F := by
  unfold rowOf
  rw [H.st]
  simp only [List.getD, List.getElem?_map]
  cases g.2[th.toNat]? <;> rfl
theorem Iso.hrow (H : Iso F S g c) (th : Int) : ∀ h ∈ rowOf g th, h = 0 ∨ S h := fun h hh => by
  obtain ⟨row, h1, h2⟩ := rowOf_mem hh
  exact H.row row h1 h h2
theorem Iso.ge (H : Iso F S g c) (th h : Int) : gte (rowOf c th) h = gte (rowOf g th) h := by rw [H.rw_, gte_map]
theorem ndOf_ne {g : Gr} {n m v : Int} {i : Nat} (h : inN g n) (k : inN g m) (e : m ≠ n) : ndOf (setF g n i v) m = ndOf g m := by
  have : n.toNat - 1 ≠ m.toNat - 1 := by
    have := h.1
    have := k.1
    omega
  show (g.1.set _ _).getD _ _ = _
  simp only [List.getD, List.getElem?_set_ne this]
  rfl
theorem mp_set {n : Nd} {i : Nat} {v v' : Int} (hi : i < n.2.length) (hv : v' = if isP n (i : Int) = true then F v else v) : ((mpF F n).1, (mpF F n).2.set i v') = mpF F (n.1, n.2.set i v) := by
  refine Prod.ext rfl (getD_ext (by simp [mpF]) fun j hj => ?_)
  have hj : j < n.2.length := by simpa [mpF] using hj
  rw [mp_at F (n.1, n.2.set i v) (by simpa using hj)]
  show ((mpF F n).2.set i v').getD j 0 = if isP n (j : Int) = true then F ((n.2.set i v).getD j 0) else (n.2.set i v).getD j 0
  by_cases e : i = j
  · subst e
    have h1 : i < (mpF F n).2.length := by rw [mp_len]; exact hi
    simp only [List.getD, List.getElem?_set_self h1, List.getElem?_set_self hi, Option.getD_some]
    exact hv
  · have := mp_at F n hj
    simp only [List.getD, List.getElem?_set_ne e] at this ⊢
    exact this
theorem Iso.set (H : Iso F S g c) {n : Int} {i : Nat} {v v' : Int} (hn : S n) (hi : i < (ndOf g n).2.length) (hv : isP (ndOf g n) (i : Int) = true → v = 0 ∨ S v) (hv' : v' = if isP (ndOf g n) (i : Int) = true then F v else v) : Iso F S (setF g n i v) (setF c (F n) i v') := by
  have gn := H.inn n hn
  have cn := H.im n hn
  refine ⟨H.z, fun h k => inN_set.2 (H.inn h k), H.inj, fun h k => inN_set.2 (H.im h k), fun h k x hx => ?_, fun h k => ?_, fun row hr => H.row row hr, H.st⟩
  · by_cases e : h = n
    · subst e
      rw [ndOf_set gn] at hx
      obtain ⟨j, hj, hp, rfl⟩ := ptrs_mem hx
      have hj : j < (ndOf g h).2.length := by simpa using hj
      by_cases e : i = j
      · subst e
        simp only [List.getD, List.getElem?_set_self hi, Option.getD_some]
        exact hv hp
      · have := H.cl h k _ (mem_ptrs hj hp)
        simpa only [List.getD, List.getElem?_set_ne e] using this
    · rw [ndOf_ne gn (H.inn h k) e] at hx
      exact H.cl h k x hx
  · by_cases e : h = n
    · subst e
      rw [ndOf_set cn, ndOf_set gn, H.nd h k]
      exact mp_set hi hv'
    · rw [ndOf_ne cn (H.im h k) (fun q => e (H.inj h n k hn q)), ndOf_ne gn (H.inn h k) e]
      exact H.nd h k
theorem ndOf_old {g : Gr} {o : Op} {m : Int} (h : inN g m) : ndOf (allocN g o) m = ndOf g m := by
  have : m.toNat - 1 < g.1.length := by have := h.1; have := h.2; omega
  show (g.1 ++ _).getD _ _ = _
  simp only [List.getD, List.getElem?_append_left this]
  rfl
theorem ndOf_new {g : Gr} {o : Op} : ndOf (allocN g o) (g.1.length + 1) = ((o.t, o.l, o.m), List.replicate o.l.toNat 0) := fresh_nd (th := 0)
theorem alloc_len {g : Gr} {o : Op} : (allocN g o).1.length = g.1.length + 1 := by simp [allocN]
theorem Iso.alloc (H : Iso F S g c) (o : Op) : Iso (fun h => if h = (g.1.length : Int) + 1 then (c.1.length : Int) + 1 else F h) (fun h => S h ∨ h = (g.1.length : Int) + 1) (allocN g o) (allocN c o) := by
  have old : ∀ h, (h = 0 ∨ S h) → ¬ h = (g.1.length : Int) + 1 := fun h k e => by
    rcases k with k | k
    · omega
    · have := (H.inn h k).2; omega
  have fo : ∀ h, (h = 0 ∨ S h) → (if h = (g.1.length : Int) + 1 then (c.1.length : Int) + 1 else F h) = F h := fun h k => if_neg (old h k)
  have gi : ∀ h, inN g h → inN (allocN g o) h := fun h k => ⟨k.1, by rw [alloc_len]; have := k.2; omega⟩
  have ci : ∀ h, inN c h → inN (allocN c o) h := fun h k => ⟨k.1, by rw [alloc_len]; have := k.2; omega⟩
  refine ⟨?_, fun h k => ?_, fun a b ha hb e => ?_, fun h k => ?_, fun h k x hx => ?_, fun h k => ?_, fun row hr h hh => ?_, ?_⟩
  · show (if (0 : Int) = _ then _ else _) = _
    rw [fo 0 (.inl rfl)]
    exact H.z
  · rcases k with k | k
    · exact gi h (H.inn h k)
    · rw [k]; exact ⟨by omega, by rw [alloc_len]; omega⟩
  · change (if a = _ then _ else _) = (if b = _ then _ else _) at e
    rcases ha with ha | ha <;> rcases hb with hb | hb
    · rw [fo a (.inr ha), fo b (.inr hb)] at e
      exact H.inj a b ha hb e
    · rw [fo a (.inr ha), if_pos hb] at e
      have := (H.im a ha).2
      omega
    · rw [fo b (.inr hb), if_pos ha] at e
      have := (H.im b hb).2
      omega
    · rw [ha, hb]
  · show inN _ (if h = _ then _ else _)
    rcases k with k | k
    · rw [fo h (.inr k)]; exact ci _ (H.im h k)
    · rw [if_pos k]; exact ⟨by omega, by rw [alloc_len]; omega⟩
  · rcases k with k | k
    · rw [ndOf_old (H.inn h k)] at hx
      rcases H.cl h k x hx with q | q
      · exact .inl q
      · exact .inr (.inl q)
    · rw [k, ndOf_new] at hx
      obtain ⟨j, hj, hp, rfl⟩ := ptrs_mem hx
      exact .inl (rep_0 _ _)
  · show ndOf _ (if h = _ then _ else _) = _
    rcases k with k | k
    · rw [fo h (.inr k), ndOf_old (H.im h k), ndOf_old (H.inn h k), H.nd h k]
      refine mp_eq fun i hi hp => (fo _ (H.cl h k _ (mem_ptrs hi hp))).symm
    · rw [if_pos k, k, ndOf_new, ndOf_new]
      refine Prod.ext rfl (getD_ext (by simp [mpF]) fun j hj => ?_)
      have hj : j < (((o.t, o.l, o.m), List.replicate o.l.toNat (0 : Int)) : Nd).2.length := hj
      rw [mp_at _ _ hj]
      show (List.replicate o.l.toNat (0 : Int)).getD j 0 = if _ then (if (List.replicate o.l.toNat (0 : Int)).getD j 0 = _ then _ else F ((List.replicate o.l.toNat (0 : Int)).getD j 0)) else (List.replicate o.l.toNat (0 : Int)).getD j 0
      rw [rep_0, fo 0 (.inl rfl), H.z]
      simp
  · rcases H.row row hr h hh with q | q
    · exact .inl q
    · exact .inr (.inl q)
  · show c.2 = g.2.map _
    rw [H.st]
    refine List.map_congr_left fun row hr => List.map_congr_left fun h hh => (fo h (H.row row hr h hh)).symm
end

end Go.Proofs.YtanhhkdoejnpiaaGreat.G
/-! Of stage 15 -/
namespace Go.Proofs.YtanhhkdoejnpiaaGreat.G
open Go.Joins Go.ChangeShapes Go.WideShapes Go.ChangeAt Go.RowKit Go.Deep Go.Shelf Go.Maps
set_option linter.unusedVariables false
set_option linter.unusedSimpArgs false

theorem pl_bd (o : List Int) (h : Int) : 0 ≤ pl o h ∧ pl o h ≤ o.length := by
  by_cases k : h ∈ o
  · have := pl_in k
    omega
  · unfold pl
    rw [if_neg k]
    omega
theorem canon_len {g : Gr} (hn : g.1.length ≤ 1000) : (canon g).1.length ≤ g.1.length ∧ (canon g).2.length = g.2.length ∧ (canon g).2.flatten.length = g.2.flatten.length := by
  refine ⟨?_, ?_, ?_⟩
  · show ((ord g).map _).length ≤ _
    rw [List.length_map]
    exact (ord_more hn).td.len
  · show (g.2.map _).length = _
    rw [List.length_map]
  · have e : (canon g).2 = g.2.map (List.map (pl (ord g))) := rfl
    rw [e, ← List.map_flatten, List.length_map]
theorem canon_rg {g : Gr} (hR : Rg g) (hn : g.1.length ≤ 1000) : Rg (canon g) := by
  have M := ord_more hn
  have hlen : (ord g).length ≤ g.1.length := M.td.len
  have hc : (canon g).1.length = (ord g).length := by
    show ((ord g).map _).length = _
    rw [List.length_map]
  have mem : ∀ n ∈ (canon g).1, ∃ m ∈ g.1, n = mpF (pl (ord g)) m := fun n h => by
    obtain ⟨h1, h2, rfl⟩ := List.mem_map.1 h
    exact ⟨_, ndOf_mem (M.td.inn h1 h2), rfl⟩
  refine ⟨fun n h => ?_, fun n h => ?_, fun n h x hx => ?_, fun n h i hi hp => ?_, fun row hr h hh => ?_⟩
  · obtain ⟨m, hm, rfl⟩ := mem n h
    have := hR.hd m hm
    rw [mp_len]
    exact this
  · obtain ⟨m, hm, rfl⟩ := mem n h
    exact hR.mp m hm
  · obtain ⟨m, hm, rfl⟩ := mem n h
    obtain ⟨i, hi, rfl⟩ := List.mem_map.1 hx
    have hi := List.mem_range.1 hi
    have b := pl_bd (ord g) (m.2.getD i 0)
    have f := hR.fu m hm (m.2.getD i 0) (getD_mem 0 hi)
    show U64 (if isP m (i : Int) = true then pl (ord g) (m.2.getD i 0) else m.2.getD i 0)
    split
    · exact ⟨b.1, by omega⟩
    · exact f
  · obtain ⟨m, hm, rfl⟩ := mem n h
    rw [mp_len] at hi
    rw [mp_isP] at hp
    rw [mp_at _ m hi, if_pos hp, hc]
    exact (pl_bd _ _).2
  · obtain ⟨row', h1, rfl⟩ := List.mem_map.1 hr
    obtain ⟨h', h2, rfl⟩ := List.mem_map.1 hh
    rw [hc]
    exact pl_bd _ _

end Go.Proofs.YtanhhkdoejnpiaaGreat.G
/-! Of stage 15 -/
namespace Go.Proofs.YtanhhkdoejnpiaaGreat.G
open Go.Joins Go.ChangeShapes Go.WideShapes Go.ChangeAt Go.RowKit Go.Deep Go.Shelf Go.Maps
set_option linter.unusedVariables false
set_option linter.unusedSimpArgs false

/-- A node's pointers up to a field. -/
def pup (n : Nd) (i : Nat) : List Int := ((List.range i).filter fun (j : Nat) => isP n (j : Int)).map fun j => n.2.getD j 0
theorem pup_all (n : Nd) : pup n n.2.length = ptrs n := rfl
theorem pup_yes {n : Nd} {i : Nat} (h : isP n (i : Int) = true) : pup n (i + 1) = pup n i ++ [n.2.getD i 0] := by simp [pup, List.range_succ, h]
theorem pup_no {n : Nd} {i : Nat} (h : isP n (i : Int) = false) : pup n (i + 1) = pup n i := by simp [pup, List.range_succ, h]
theorem vall_app (g : Gr) (f : Nat) (a b o : List Int) : vall g f (a ++ b) o = vall g f b (vall g f a o) := by unfold vall; rw [List.foldl_append]
theorem vall_one (g : Gr) (f : Nat) (h : Int) (o : List Int) : vall g f [h] o = vis g f h o := rfl
/-- A place stays. -/
theorem pl_pre {o o' : List Int} {n : Int} (h : o <+: o') (k : n ∈ o) : pl o' n = pl o n := by
  obtain ⟨t, rfl⟩ := h
  unfold pl
  rw [if_pos k, if_pos (List.mem_append_left _ k), List.idxOf_append, if_pos k]
theorem pl_out {g : Gr} {o : List Int} {n : Int} (h : Told g o) (k : ¬ inN g n) : pl o n = 0 := by
  unfold pl
  rw [if_neg (fun q => k (h.inn n q))]
/-- What a node's pointers lead to is told: their places stay. -/
theorem mp_pre {g : Gr} {o o' : List Int} {m : Int} (ho : Told g o) (ho' : Told g o') (h : o <+: o') (k : ∀ v ∈ ptrs (ndOf g m), inN g v → v ∈ o) : mpF (pl o') (ndOf g m) = mpF (pl o) (ndOf g m) :=
  mp_eq fun i hi hp => by
    have hv := mem_ptrs hi hp
    by_cases q : inN g ((ndOf g m).2.getD i 0)
    · exact pl_pre h (k _ hv q)
    · rw [pl_out ho q, pl_out ho' q]
/-- The node's fields, mapped up to one. -/
def half (o : List Int) (n : Nd) (i : Nat) : List Int := (List.range n.2.length).map fun (j : Nat) => if isP n (j : Int) = true ∧ j < i then pl o (n.2.getD j 0) else n.2.getD j 0
theorem half_0 (o : List Int) (n : Nd) : half o n 0 = n.2 := by
  refine getD_ext (by simp [half]) fun j hj => ?_
  have hj : j < n.2.length := by simpa [half] using hj
  simp [half, List.getD, hj]
theorem half_len (o : List Int) (n : Nd) (i : Nat) : (half o n i).length = n.2.length := by simp [half]
theorem half_all (o : List Int) (n : Nd) : half o n n.2.length = (mpF (pl o) n).2 := by
  refine List.map_congr_left fun j hj => ?_
  have := List.mem_range.1 hj
  by_cases q : isP n (j : Int) = true
  · rw [if_pos ⟨q, this⟩, if_pos q]
  · rw [if_neg (fun x => q x.1), if_neg q]
theorem half_at (o : List Int) (n : Nd) (i : Nat) {j : Nat} (h : j < n.2.length) : (half o n i).getD j 0 = if isP n (j : Int) = true ∧ j < i then pl o (n.2.getD j 0) else n.2.getD j 0 := by
  simp [half, List.getD, h]
theorem half_no {o : List Int} {n : Nd} {i : Nat} (h : isP n (i : Int) = false) : half o n (i + 1) = half o n i := by
  refine List.map_congr_left fun j hj => ?_
  by_cases q : isP n (j : Int) = true ∧ j < i
  · rw [if_pos q, if_pos ⟨q.1, by omega⟩]
  · rw [if_neg q, if_neg (fun x => q ⟨x.1, by
      have : j ≠ i := fun e => by rw [e, h] at x; cases x.1
      omega⟩)]
theorem half_yes {o o' : List Int} {n : Nd} {i : Nat} (hi : i < n.2.length) (h : isP n (i : Int) = true) (hp : ∀ j, j < i → isP n (j : Int) = true → pl o' (n.2.getD j 0) = pl o (n.2.getD j 0)) : half o' n (i + 1) = (half o n i).set i (pl o' (n.2.getD i 0)) := by
  refine getD_ext (by simp [half]) fun j hj => ?_
  have hj : j < n.2.length := by simpa [half] using hj
  rw [half_at _ _ _ hj]
  by_cases e : i = j
  · subst e
    have h1 : i < (half o n i).length := by rw [half_len]; exact hj
    rw [if_pos ⟨h, by omega⟩]
    simp only [List.getD, List.getElem?_set_self h1, Option.getD_some]
  · have h2 := half_at o n i hj
    have h3 : ((half o n i).set i (pl o' (n.2.getD i 0))).getD j 0 = (half o n i).getD j 0 := by simp only [List.getD, List.getElem?_set_ne e]
    rw [h3, h2]
    by_cases q : isP n (j : Int) = true ∧ j < i
    · rw [if_pos q, if_pos ⟨q.1, by omega⟩]
      exact hp j q.2 q.1
    · rw [if_neg q, if_neg (fun x => q ⟨x.1, by omega⟩)]

end Go.Proofs.YtanhhkdoejnpiaaGreat.G
