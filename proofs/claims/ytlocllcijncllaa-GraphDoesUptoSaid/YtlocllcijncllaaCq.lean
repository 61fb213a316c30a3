/- What is done on graphs that are the same but for their numbers answers the same, and leaves them the same but for their numbers. -/
import Derived.Test.YtlocllcijncllaaCp
namespace Go.Proofs.Ytlocllcijncllaa
open Go.Joins Go.ChangeShapes Go.WideShapes Go.ChangeAt Go.RowKit Go.Deep Go.Shelf Go.Maps
set_option linter.unusedVariables false
set_option linter.unusedSimpArgs false

theorem getD_ext {xs ys : List Int} (hl : xs.length = ys.length) (h : ∀ j, j < xs.length → xs.getD j 0 = ys.getD j 0) : xs = ys := by
  refine List.ext_getElem hl fun j h1 h2 => ?_
  have := h j h1
  simpa [List.getD, List.getElem?_eq_getElem h1, List.getElem?_eq_getElem h2] using this
theorem gte_map (F : Int → Int) (xs : List Int) (h : Int) : gte (xs.map F) h = gte xs h := by unfold gte; rw [List.length_map]
theorem gtv_map {F : Int → Int} (z : F 0 = 0) (xs : List Int) (h : Int) : gtv (xs.map F) h = F (gtv xs h) := by
  unfold gtv
  rw [List.length_map]
  split
  · rename_i q
    have : h.toNat < xs.length := by omega
    simp [List.getD, List.getElem?_eq_getElem this]
  · exact z.symm
theorem gtv_p {P : Int → Prop} {xs : List Int} (h0 : P 0) (k : ∀ x ∈ xs, P x) (h : Int) : P (gtv xs h) := by
  unfold gtv
  split
  · exact k _ (getD_mem 0 (by omega))
  · exact h0
section
variable {F : Int → Int} {S : Int → Prop} {g c : Gr}
theorem Iso.len (H : Iso F S g c) : c.2.length = g.2.length := by rw [H.st, List.length_map]
theorem Iso.th (H : Iso F S g c) (th : Int) : isTh c th ↔ isTh g th := by unfold isTh; rw [H.len]
theorem Iso.rw_ (H : Iso F S g c) (th : Int) : rowOf c th = (rowOf g th).map F := by
  unfold rowOf
  rw [H.st]
  simp only [List.getD, List.getElem?_map]
  cases g.2[th.toNat]? <;> rfl
theorem Iso.hrow (H : Iso F S g c) (th : Int) : ∀ h ∈ rowOf g th, h = 0 ∨ S h := fun h hh => by
  obtain ⟨row, h1, h2⟩ := rowOf_mem hh
  exact H.row row h1 h h2
theorem Iso.gt (H : Iso F S g c) (th h : Int) : gtv (rowOf c th) h = F (gtv (rowOf g th) h) := by rw [H.rw_, gtv_map H.z]
theorem Iso.gk (H : Iso F S g c) (th h : Int) : gtv (rowOf g th) h = 0 ∨ S (gtv (rowOf g th) h) := gtv_p (P := fun x => x = 0 ∨ S x) (.inl rfl) (H.hrow th) h
theorem Iso.ge (H : Iso F S g c) (th h : Int) : gte (rowOf c th) h = gte (rowOf g th) h := by rw [H.rw_, gte_map]
theorem Iso.rm (H : Iso F S g c) (th : Int) : rme c th = rme g th := by unfold rme; rw [H.rw_, List.length_map]
theorem Iso.s_of (H : Iso F S g c) {x : Int} (k : x = 0 ∨ S x) (h : inN g x) : S x := by
  rcases k with rfl | k
  · exact absurd h (no_0 g)
  · exact k
theorem Iso.fd (H : Iso F S g c) (th : Int) (o : Op) : fde c th o = fde g th o ∧ (fde g th o = 0 → S (gtv (rowOf g th) o.h) ∧ hob c th o = mpF F (hob g th o)) := by
  have hb : inN g (gtv (rowOf g th) o.h) → hob c th o = mpF F (hob g th o) := fun q => by
    show ndOf c (gtv (rowOf c th) o.h) = _
    rw [H.gt]
    exact H.nd _ (H.s_of (H.gk th o.h) q)
  refine ⟨?_, fun h => ?_⟩
  · unfold fde
    rw [H.ge]
    by_cases q : inN g (gtv (rowOf g th) o.h)
    · have q2 : inN c (gtv (rowOf c th) o.h) := by rw [H.gt]; exact (H.inn' (H.gk th o.h)).2 q
      have : (ndOf c (gtv (rowOf c th) o.h)).2.length = (ndOf g (gtv (rowOf g th) o.h)).2.length := by
        have := congrArg (fun n : Nd => n.2.length) (hb q)
        exact this.trans (mp_len F _)
      rw [if_pos q, if_pos q2, this]
    · have q2 : ¬ inN c (gtv (rowOf c th) o.h) := by rw [H.gt]; exact fun x => q ((H.inn' (H.gk th o.h)).1 x)
      rw [if_neg q, if_neg q2]
  · obtain ⟨f1, f2, f3, f4⟩ := fde_in h
    exact ⟨H.s_of (H.gk th o.h) f2, hb f2⟩
theorem Iso.err (H : Iso F S g c) (th : Int) (o : Op) : errG c th o = errG g th o := by
  have e1 := (H.fd th o).1
  have e2 := H.rm th
  have e3 := H.ge th
  have e4 : (rowOf c th = []) ↔ (rowOf g th = []) := by rw [H.rw_, List.map_eq_nil_iff]
  by_cases f : fde g th o = 0
  · have hp : isP (hob c th o) o.i = isP (hob g th o) o.i := by rw [((H.fd th o).2 f).2]; rfl
    unfold errG
    simp only [e1, e2, e3, e4, hp]
  · unfold errG
    simp only [e1, e2, e3, e4, if_neg f]
theorem Iso.fw (H : Iso F S g c) {th : Int} {o : Op} (f : fde g th o = 0) : fwd c th o = if isP (hob g th o) o.i = true then F (fwd g th o) else fwd g th o := by
  obtain ⟨f1, f2, f3, f4⟩ := fde_in f
  show (hob c th o).2.getD o.i.toNat 0 = _
  rw [((H.fd th o).2 f).2, mp_at F _ (by omega), isP_nat f3]
theorem Iso.fk (H : Iso F S g c) {th : Int} {o : Op} (f : fde g th o = 0) (hp : isP (hob g th o) o.i = true) : fwd g th o = 0 ∨ S (fwd g th o) := by
  obtain ⟨f1, f2, f3, f4⟩ := fde_in f
  exact H.cl _ ((H.fd th o).2 f).1 _ (mem_ptrs (n := hob g th o) (i := o.i.toNat) (by omega) (by rw [isP_nat f3]; exact hp))
theorem Iso.push (H : Iso F S g c) (th : Int) {x : Int} (k : x = 0 ∨ S x) : Iso F S (pushG g th x) (pushG c th (F x)) := by
  refine ⟨H.z, H.inn, H.inj, H.im, H.cl, H.nd, fun row hr h hh => ?_, ?_⟩
  · rcases List.mem_or_eq_of_mem_set hr with q | q
    · exact H.row row q h hh
    · subst q
      rcases List.mem_append.1 hh with q2 | q2
      · exact H.hrow th h q2
      · rw [List.mem_singleton.1 q2]; exact k
  · show c.2.set th.toNat (rowOf c th ++ [F x]) = (g.2.set th.toNat (rowOf g th ++ [x])).map _
    rw [H.rw_, H.st, List.map_set, List.map_append]
    rfl
theorem Iso.pop (H : Iso F S g c) (th : Int) : Iso F S (popG g th) (popG c th) := by
  refine ⟨H.z, H.inn, H.inj, H.im, H.cl, H.nd, fun row hr h hh => ?_, ?_⟩
  · rcases List.mem_or_eq_of_mem_set hr with q | q
    · exact H.row row q h hh
    · subst q
      exact H.hrow th h (List.dropLast_subset _ hh)
  · show c.2.set th.toNat (rowOf c th).dropLast = (g.2.set th.toNat (rowOf g th).dropLast).map _
    rw [H.rw_, H.st, List.map_set, List.map_dropLast]
theorem ndOf_ne {g : Gr} {n m v : Int} {i : Nat} (h : inN g n) (k : inN g m) (e : m ≠ n) : ndOf (setF g n i v) m = ndOf g m := by
  have : n.toNat - 1 ≠ m.toNat - 1 := by
    have := h.1
    have := k.1
    omega
  show (g.1.set _ _).getD _ _ = _
  simp only [List.getD, List.getElem?_set_ne this]
  rfl
theorem mp_set {n : Nd} {i : Nat} {v v' : Int} (hi : i < n.2.length) (hv : v' = if isP n (i : Int) = true then F v else v) : ((mpF F n).1, (mpF F n).2.set i v') = mpF F (n.1, n.2.set i v) := by
  refine Prod.ext rfl (getD_ext (by simp [mpF]) fun j hj => ?_)
  have hj : j < n.2.length := by simpa [mpF] using hj
  rw [mp_at F (n.1, n.2.set i v) (by simpa using hj)]
  show ((mpF F n).2.set i v').getD j 0 = if isP n (j : Int) = true then F ((n.2.set i v).getD j 0) else (n.2.set i v).getD j 0
  by_cases e : i = j
  · subst e
    have h1 : i < (mpF F n).2.length := by rw [mp_len]; exact hi
    simp only [List.getD, List.getElem?_set_self h1, List.getElem?_set_self hi, Option.getD_some]
    exact hv
  · have := mp_at F n hj
    simp only [List.getD, List.getElem?_set_ne e] at this ⊢
    exact this
theorem Iso.set (H : Iso F S g c) {n : Int} {i : Nat} {v v' : Int} (hn : S n) (hi : i < (ndOf g n).2.length) (hv : isP (ndOf g n) (i : Int) = true → v = 0 ∨ S v) (hv' : v' = if isP (ndOf g n) (i : Int) = true then F v else v) : Iso F S (setF g n i v) (setF c (F n) i v') := by
  have gn := H.inn n hn
  have cn := H.im n hn
  refine ⟨H.z, fun h k => inN_set.2 (H.inn h k), H.inj, fun h k => inN_set.2 (H.im h k), fun h k x hx => ?_, fun h k => ?_, fun row hr => H.row row hr, H.st⟩
  · by_cases e : h = n
    · subst e
      rw [ndOf_set gn] at hx
      obtain ⟨j, hj, hp, rfl⟩ := ptrs_mem hx
      have hj : j < (ndOf g h).2.length := by simpa using hj
      by_cases e : i = j
      · subst e
        simp only [List.getD, List.getElem?_set_self hi, Option.getD_some]
        exact hv hp
      · have := H.cl h k _ (mem_ptrs hj hp)
        simpa only [List.getD, List.getElem?_set_ne e] using this
    · rw [ndOf_ne gn (H.inn h k) e] at hx
      exact H.cl h k x hx
  · by_cases e : h = n
    · subst e
      rw [ndOf_set cn, ndOf_set gn, H.nd h k]
      exact mp_set hi hv'
    · rw [ndOf_ne cn (H.im h k) (fun q => e (H.inj h n k hn q)), ndOf_ne gn (H.inn h k) e]
      exact H.nd h k
theorem ndOf_old {g : Gr} {o : Op} {m : Int} (h : inN g m) : ndOf (allocN g o) m = ndOf g m := by
  have : m.toNat - 1 < g.1.length := by have := h.1; have := h.2; omega
  show (g.1 ++ _).getD _ _ = _
  simp only [List.getD, List.getElem?_append_left this]
  rfl
theorem ndOf_new {g : Gr} {o : Op} : ndOf (allocN g o) (g.1.length + 1) = ((o.t, o.l, o.m), List.replicate o.l.toNat 0) := fresh_nd (th := 0)
theorem alloc_len {g : Gr} {o : Op} : (allocN g o).1.length = g.1.length + 1 := by simp [allocN]
theorem Iso.alloc (H : Iso F S g c) (o : Op) : Iso (fun h => if h = (g.1.length : Int) + 1 then (c.1.length : Int) + 1 else F h) (fun h => S h ∨ h = (g.1.length : Int) + 1) (allocN g o) (allocN c o) := by
  have old : ∀ h, (h = 0 ∨ S h) → ¬ h = (g.1.length : Int) + 1 := fun h k e => by
    rcases k with k | k
    · omega
    · have := (H.inn h k).2; omega
  have fo : ∀ h, (h = 0 ∨ S h) → (if h = (g.1.length : Int) + 1 then (c.1.length : Int) + 1 else F h) = F h := fun h k => if_neg (old h k)
  have gi : ∀ h, inN g h → inN (allocN g o) h := fun h k => ⟨k.1, by rw [alloc_len]; have := k.2; omega⟩
  have ci : ∀ h, inN c h → inN (allocN c o) h := fun h k => ⟨k.1, by rw [alloc_len]; have := k.2; omega⟩
  refine ⟨?_, fun h k => ?_, fun a b ha hb e => ?_, fun h k => ?_, fun h k x hx => ?_, fun h k => ?_, fun row hr h hh => ?_, ?_⟩
  · show (if (0 : Int) = _ then _ else _) = _
    rw [fo 0 (.inl rfl)]
    exact H.z
  · rcases k with k | k
    · exact gi h (H.inn h k)
    · rw [k]; exact ⟨by omega, by rw [alloc_len]; omega⟩
  · change (if a = _ then _ else _) = (if b = _ then _ else _) at e
    rcases ha with ha | ha <;> rcases hb with hb | hb
    · rw [fo a (.inr ha), fo b (.inr hb)] at e
      exact H.inj a b ha hb e
    · rw [fo a (.inr ha), if_pos hb] at e
      have := (H.im a ha).2
      omega
    · rw [fo b (.inr hb), if_pos ha] at e
      have := (H.im b hb).2
      omega
    · rw [ha, hb]
  · show inN _ (if h = _ then _ else _)
    rcases k with k | k
    · rw [fo h (.inr k)]; exact ci _ (H.im h k)
    · rw [if_pos k]; exact ⟨by omega, by rw [alloc_len]; omega⟩
  · rcases k with k | k
    · rw [ndOf_old (H.inn h k)] at hx
      rcases H.cl h k x hx with q | q
      · exact .inl q
      · exact .inr (.inl q)
    · rw [k, ndOf_new] at hx
      obtain ⟨j, hj, hp, rfl⟩ := ptrs_mem hx
      exact .inl (rep_0 _ _)
  · show ndOf _ (if h = _ then _ else _) = _
    rcases k with k | k
    · rw [fo h (.inr k), ndOf_old (H.im h k), ndOf_old (H.inn h k), H.nd h k]
      refine mp_eq fun i hi hp => (fo _ (H.cl h k _ (mem_ptrs hi hp))).symm
    · rw [if_pos k, k, ndOf_new, ndOf_new]
      refine Prod.ext rfl (getD_ext (by simp [mpF]) fun j hj => ?_)
      have hj : j < (((o.t, o.l, o.m), List.replicate o.l.toNat (0 : Int)) : Nd).2.length := hj
      rw [mp_at _ _ hj]
      show (List.replicate o.l.toNat (0 : Int)).getD j 0 = if _ then (if (List.replicate o.l.toNat (0 : Int)).getD j 0 = _ then _ else F ((List.replicate o.l.toNat (0 : Int)).getD j 0)) else (List.replicate o.l.toNat (0 : Int)).getD j 0
      rw [rep_0, fo 0 (.inl rfl), H.z]
      simp
  · rcases H.row row hr h hh with q | q
    · exact .inl q
    · exact .inr (.inl q)
  · show c.2 = g.2.map _
    rw [H.st]
    refine List.map_congr_left fun row hr => List.map_congr_left fun h hh => (fo h (H.row row hr h hh)).symm
/-- What is done on the one and on the other. -/
theorem Iso.do_ (H : Iso F S g c) (th : Int) (o : Op) : (doG c th o).2 = (doG g th o).2 ∧ ∃ F' S', Iso F' S' (doG g th o).1 (doG c th o).1 := by
  unfold doG
  by_cases ht : isTh g th
  · rw [if_pos ht, if_pos ((H.th th).2 ht), H.err]
    by_cases he : errG g th o = 0
    · rw [if_pos he, if_pos he]
      refine ⟨?_, ?_⟩
      · show ((0 : Int), ansV c th o, ansY c th o) = (0, ansV g th o, ansY g th o)
        have h1 : ansV c th o = ansV g th o := by
          unfold ansV
          by_cases q : o.kd = 2
          · rw [if_pos q, if_pos q]
            obtain ⟨s1, s2⟩ := scal_0 (.inl q) he
            rw [H.fw s1, if_neg (by rw [s2]; decide)]
          · rw [if_neg q, if_neg q]
        have h2 : ansY c th o = ansY g th o := by
          unfold ansY
          rw [H.gt, H.gt]
          congr 1
          rw [decide_eq_decide]
          exact ⟨fun e => H.inj' (H.gk th o.h) (H.gk th o.k) e, fun e => by rw [e]⟩
        rw [h1, h2]
      · show ∃ F' S', Iso F' S' (newG g th o) (newG c th o)
        unfold newG
        by_cases k1 : o.kd = 1
        · rw [if_pos k1, if_pos k1]
          have HA := (H.alloc o).push th (x := (g.1.length : Int) + 1) (.inr (.inr rfl))
          simp only [if_true] at HA
          exact ⟨_, _, HA⟩
        · rw [if_neg k1, if_neg k1]
          by_cases k3 : o.kd = 3
          · rw [if_pos k3, if_pos k3]
            obtain ⟨s1, s2, s3⟩ := pnt_3 k3 he
            rw [H.fw s1, if_pos s2]
            exact ⟨F, S, H.push th (H.fk s1 s2)⟩
          · rw [if_neg k3, if_neg k3]
            by_cases k4 : o.kd = 4 ∨ o.kd = 5 ∨ o.kd = 6 ∨ o.kd = 7
            · rw [if_pos k4, if_pos k4, H.gt]
              by_cases k5 : o.kd = 5
              · obtain ⟨s1, s2, s3⟩ := pnt_5 k5 he
                obtain ⟨f1, f2, f3, f4⟩ := fde_in s1
                have w1 : wrv g th o = gtv (rowOf g th) o.k := by unfold wrv; rw [if_neg (by omega), if_neg (by omega), if_pos k5]
                have w2 : wrv c th o = F (gtv (rowOf g th) o.k) := by unfold wrv; rw [if_neg (by omega), if_neg (by omega), if_pos k5, H.gt]
                have s2' : isP (ndOf g (gtv (rowOf g th) o.h)) (o.i.toNat : Int) = true := by rw [isP_nat f3]; exact s2
                rw [w1, w2]
                have f4' : o.i.toNat < (ndOf g (gtv (rowOf g th) o.h)).2.length := by
                  have : o.i < ((ndOf g (gtv (rowOf g th) o.h)).2.length : Int) := f4
                  omega
                exact ⟨F, S, H.set ((H.fd th o).2 s1).1 f4' (fun _ => H.gk th o.k) (by rw [if_pos s2'])⟩
              · obtain ⟨s1, s2⟩ := scal_0 (by omega) he
                obtain ⟨f1, f2, f3, f4⟩ := fde_in s1
                have hf : fwd c th o = fwd g th o := by rw [H.fw s1, if_neg (by rw [s2]; decide)]
                have w2 : wrv c th o = wrv g th o := by unfold wrv; rw [hf, if_neg k5, if_neg k5]
                have s2' : isP (ndOf g (gtv (rowOf g th) o.h)) (o.i.toNat : Int) = false := by rw [isP_nat f3]; exact s2
                rw [w2]
                have f4' : o.i.toNat < (ndOf g (gtv (rowOf g th) o.h)).2.length := by
                  have : o.i < ((ndOf g (gtv (rowOf g th) o.h)).2.length : Int) := f4
                  omega
                exact ⟨F, S, H.set ((H.fd th o).2 s1).1 f4' (fun q => by rw [s2'] at q; cases q) (by rw [s2']; rfl)⟩
            · rw [if_neg k4, if_neg k4]
              by_cases k9 : o.kd = 9
              · rw [if_pos k9, if_pos k9, H.gt]
                exact ⟨F, S, H.push th (H.gk th o.h)⟩
              · rw [if_neg k9, if_neg k9]
                by_cases k10 : o.kd = 10
                · rw [if_pos k10, if_pos k10]
                  exact ⟨F, S, H.pop th⟩
                · rw [if_neg k10, if_neg k10]
                  exact ⟨F, S, H⟩
    · rw [if_neg he, if_neg he]
      exact ⟨rfl, F, S, H⟩
  · rw [if_neg ht, if_neg (fun q => ht ((H.th th).1 q))]
    exact ⟨rfl, F, S, H⟩
end
/-- What isn't reached doesn't matter. -/
theorem canon_do {g : Gr} (hR : Rg g) (hn : g.1.length ≤ 100) (th : Int) (o : Op) : (doG (canon g) th o).2 = (doG g th o).2 ∧ canon (doG (canon g) th o).1 = canon (doG g th o).1 := by
  obtain ⟨h1, F', S', H⟩ := (canon_iso hR hn).do_ th o
  exact ⟨h1, H.canon⟩
end Go.Proofs.Ytlocllcijncllaa
