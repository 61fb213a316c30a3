/- Plain facts on two or three things done one after the other: push and pop, write and get, link and follow, a new object. -/
import Derived.Test.YtlocllcijncllaaDp
namespace Go.Proofs.Ytlocllcijncllaa
open Go.Joins Go.ChangeShapes Go.WideShapes Go.ChangeAt Go.RowKit Go.Deep Go.Shelf Go.Maps
set_option linter.unusedVariables false
set_option linter.unusedSimpArgs false

theorem do_ok {g : Gr} {th : Int} {o : Op} (h : (doG g th o).2.1 = 0) : isTh g th ∧ errG g th o = 0 ∧ doG g th o = (newG g th o, (0, ansV g th o, ansY g th o)) := by
  unfold doG at h ⊢
  by_cases ht : isTh g th
  · rw [if_pos ht] at h ⊢
    by_cases he : errG g th o = 0
    · rw [if_pos he]; exact ⟨ht, he, rfl⟩
    · rw [if_neg he] at h; exact absurd h he
  · rw [if_neg ht] at h
    cases h
theorem do_err {g : Gr} {th : Int} {o : Op} (h : (doG g th o).2.1 ≠ 0) : doG g th o = (g, ((doG g th o).2.1, 0, false)) := by
  obtain ⟨h1, h2⟩ := do_no h
  exact Prod.ext h1 h2
theorem do_yes {g : Gr} {th : Int} {o : Op} (ht : isTh g th) (he : errG g th o = 0) : doG g th o = (newG g th o, (0, ansV g th o, ansY g th o)) := by unfold doG; rw [if_pos ht, if_pos he]
theorem do_bad {g : Gr} {th : Int} {o : Op} (ht : isTh g th) (he : errG g th o ≠ 0) : doG g th o = (g, (errG g th o, 0, false)) := by unfold doG; rw [if_pos ht, if_neg he]
theorem row_set {g : Gr} {th : Int} (ht : isTh g th) (xs : List Int) (ns : List Nd) : rowOf (ns, g.2.set th.toNat xs) th = xs := by
  obtain ⟨h0, h1⟩ := ht
  have : th.toNat < g.2.length := by omega
  simp [rowOf, List.getD, List.getElem?_set_self this]
theorem row_push {g : Gr} {th x : Int} (ht : isTh g th) : rowOf (pushG g th x) th = rowOf g th ++ [x] := row_set ht _ _
theorem isTh_push {g : Gr} {th th' x : Int} : isTh (pushG g th x) th' ↔ isTh g th' := by simp [isTh, pushG]
theorem set_self {L : List (List Int)} {j : Nat} : L.set j (L.getD j []) = L := by
  apply List.ext_getElem?
  intro i
  by_cases e : j = i
  · subst e
    by_cases q : j < L.length
    · rw [List.getElem?_set_self q]; simp [List.getD, List.getElem?_eq_getElem q]
    · rw [List.getElem?_eq_none (by simpa using q), List.getElem?_eq_none (by simpa using q)]
  · rw [List.getElem?_set_ne e]
theorem pop_push {g : Gr} {th x : Int} (ht : isTh g th) : popG (pushG g th x) th = g := by
  unfold popG
  rw [row_push ht, List.dropLast_concat]
  show (g.1, (g.2.set th.toNat (rowOf g th ++ [x])).set th.toNat (rowOf g th)) = g
  rw [List.set_set]
  exact Prod.ext rfl set_self
theorem gte_in {xs : List Int} {h : Int} (k : gte xs h = 0) : 0 ≤ h ∧ h < xs.length := by
  unfold gte at k
  split at k
  · assumption
  · cases k
theorem gte_app {xs : List Int} {h x : Int} (k : gte xs h = 0) : gte (xs ++ [x]) h = 0 ∧ gtv (xs ++ [x]) h = gtv xs h := by
  obtain ⟨h0, h1⟩ := gte_in k
  unfold gte gtv
  rw [if_pos ⟨h0, by simp; omega⟩, if_pos ⟨h0, by simp; omega⟩, if_pos ⟨h0, h1⟩]
  refine ⟨rfl, ?_⟩
  have : h.toNat < xs.length := by omega
  simp [List.getD, List.getElem?_append_left this]
theorem gte_last {xs : List Int} {x : Int} : gte (xs ++ [x]) xs.length = 0 ∧ gtv (xs ++ [x]) xs.length = x := by
  unfold gte gtv
  have hl : 0 ≤ (xs.length : Int) ∧ (xs.length : Int) < ((xs ++ [x]).length : Int) := by rw [List.length_append]; simp; omega
  rw [if_pos hl, if_pos hl]
  exact ⟨rfl, by simp [List.getD]⟩
theorem same_of {g : Gr} {th h k : Int} (ht : isTh g th) (h1 : gte (rowOf g th) h = 0) (h2 : gte (rowOf g th) k = 0) : doG g th ⟨8, h, 0, k, 0, 0, 0, 0⟩ = (g, (0, 0, decide (gtv (rowOf g th) h = gtv (rowOf g th) k))) := by
  rw [do_yes ht (by rw [err8 rfl]; show (if gte (rowOf g th) h = 0 then gte (rowOf g th) k else gte (rowOf g th) h) = 0; rw [if_pos h1]; exact h2)]
  rfl
/-! ### Push and pop -/
theorem pops_1 {g : Gr} {th h : Int} (e : (doG g th ⟨9, h, 0, 0, 0, 0, 0, 0⟩).2.1 = 0) : isTh g th ∧ doG g th ⟨9, h, 0, 0, 0, 0, 0, 0⟩ = (pushG g th (gtv (rowOf g th) h), (0, 0, false)) ∧
    doG (pushG g th (gtv (rowOf g th) h)) th ⟨8, h, 0, (rowOf g th).length, 0, 0, 0, 0⟩ = (pushG g th (gtv (rowOf g th) h), (0, 0, true)) ∧ doG (pushG g th (gtv (rowOf g th) h)) th ⟨10, 0, 0, 0, 0, 0, 0, 0⟩ = (g, (0, 0, false)) := by
  obtain ⟨ht, he, hd⟩ := do_ok e
  have ht2 := (isTh_push (g := g) (th := th) (th' := th) (x := gtv (rowOf g th) h)).2 ht
  have hg : gte (rowOf g th) h = 0 := by
    rw [err9 rfl] at he
    change (if gte (rowOf g th) h = 0 then rme g th else gte (rowOf g th) h) = 0 at he
    by_cases q : gte (rowOf g th) h = 0
    · exact q
    · rw [if_neg q] at he; exact absurd he q
  refine ⟨ht, hd, ?_, ?_⟩
  · obtain ⟨a1, a2⟩ := gte_app (x := gtv (rowOf g th) h) hg
    obtain ⟨b1, b2⟩ := gte_last (xs := rowOf g th) (x := gtv (rowOf g th) h)
    rw [same_of ht2 (by rw [row_push ht]; exact a1) (by rw [row_push ht]; exact b1), row_push ht, a2, b2]
    simp
  · rw [do_yes ht2 (by rw [err10 rfl, row_push ht, if_neg (by simp)])]
    show (popG (pushG g th (gtv (rowOf g th) h)) th, _) = _
    rw [pop_push ht]
    rfl
/-! ### Write and get -/
theorem err_wr (g : Gr) (th h i v u : Int) : errG g th ⟨2, h, i, 0, u, 0, 0, 0⟩ = errG g th ⟨4, h, i, 0, v, 0, 0, 0⟩ := by
  rw [errS (.inl rfl), errS (.inr (.inl rfl))]
  rfl
theorem ndOf_set {g : Gr} {n v : Int} {i : Nat} (h : inN g n) : ndOf (setF g n i v) n = ((ndOf g n).1, (ndOf g n).2.set i v) := by
  obtain ⟨h0, h1⟩ := h
  have : n.toNat - 1 < g.1.length := by omega
  show ((g.1.set (n.toNat - 1) ((ndOf g n).1, (ndOf g n).2.set i v)).getD (n.toNat - 1) _) = _
  simp only [List.getD, List.getElem?_set_self this, Option.getD_some]
theorem inN_set {g : Gr} {n m v : Int} {i : Nat} : inN (setF g n i v) m ↔ inN g m := by simp [inN, setF]
theorem row_setF {g : Gr} {n v th : Int} {i : Nat} : rowOf (setF g n i v) th = rowOf g th := rfl
theorem isTh_set {g : Gr} {n v th : Int} {i : Nat} : isTh (setF g n i v) th ↔ isTh g th := Iff.rfl
/-- The field stays what it is where it is written. -/
theorem fde_set {g : Gr} {th h i v : Int} {o o' : Op} (ho : o.h = h ∧ o.i = i) (ho' : o'.h = h ∧ o'.i = i) (hf : fde g th o = 0) : fde (setF g (gtv (rowOf g th) h) i.toNat v) th o' = 0 ∧ (∀ k, isP (hob (setF g (gtv (rowOf g th) h) i.toNat v) th o') k = isP (hob g th o) k) ∧ fwd (setF g (gtv (rowOf g th) h) i.toNat v) th o' = v := by
  obtain ⟨f1, f2, f3, f4⟩ := fde_in hf
  obtain ⟨rfl, rfl⟩ := ho
  have e0 : hob (setF g (gtv (rowOf g th) o.h) o.i.toNat v) th o' = ((hob g th o).1, (hob g th o).2.set o.i.toNat v) := by
    show ndOf _ (gtv (rowOf g th) o'.h) = _
    rw [ho'.1]
    exact ndOf_set f2
  refine ⟨?_, fun k => by rw [e0]; rfl, ?_⟩
  · unfold fde
    rw [row_setF, ho'.1, if_pos f1, if_pos (inN_set.2 f2), ho'.2]
    have : (ndOf (setF g (gtv (rowOf g th) o.h) o.i.toNat v) (gtv (rowOf g th) o.h)).2.length = (hob g th o).2.length := by rw [ndOf_set f2]; simp
    rw [this, if_pos ⟨f3, f4⟩]
  · show (hob _ th o').2.getD o'.i.toNat 0 = v
    rw [e0, ho'.2]
    have : o.i.toNat < (hob g th o).2.length := by omega
    simp [List.getD, List.getElem?_set_self this]
theorem wrs_0 {g : Gr} {th h i v : Int} (e : (doG g th ⟨4, h, i, 0, v, 0, 0, 0⟩).2.1 ≠ 0) : doG g th ⟨4, h, i, 0, v, 0, 0, 0⟩ = (g, ((doG g th ⟨4, h, i, 0, v, 0, 0, 0⟩).2.1, 0, false)) ∧ doG g th ⟨2, h, i, 0, 0, 0, 0, 0⟩ = (g, ((doG g th ⟨4, h, i, 0, v, 0, 0, 0⟩).2.1, 0, false)) := by
  refine ⟨do_err e, ?_⟩
  unfold doG at e ⊢
  by_cases ht : isTh g th
  · rw [if_pos ht] at e ⊢
    rw [if_pos ht]
    rw [err_wr g th h i v 0]
    by_cases he : errG g th ⟨4, h, i, 0, v, 0, 0, 0⟩ = 0
    · rw [if_pos he] at e; exact absurd rfl e
    · rw [if_neg he, if_neg he]
  · rw [if_neg ht, if_neg ht]
theorem wrs_1 {g : Gr} {th h i v : Int} (e : (doG g th ⟨4, h, i, 0, v, 0, 0, 0⟩).2.1 = 0) : ∃ k m : Gr, doG g th ⟨4, h, i, 0, v, 0, 0, 0⟩ = (k, (0, 0, false)) ∧ doG k th ⟨2, h, i, 0, 0, 0, 0, 0⟩ = (k, (0, v, false)) ∧
    doG k th ⟨7, h, i, 0, 65536, 0, 0, 0⟩ = (m, (0, 0, false)) ∧ doG m th ⟨2, h, i, 0, 0, 0, 0, 0⟩ = (m, (0, v % 4294967296, false)) ∧ k.1.length = g.1.length ∧ m.1.length = g.1.length ∧ k.2 = g.2 ∧ m.2 = g.2 := by
  obtain ⟨ht, he, hd⟩ := do_ok e
  obtain ⟨s1, s2⟩ := scal_0 (.inr (.inl rfl)) he
  have f := fun (o' : Op) (ho' : o'.h = h ∧ o'.i = i) => fde_set (o := ⟨4, h, i, 0, v, 0, 0, 0⟩) (v := v) ⟨rfl, rfl⟩ ho' s1
  obtain ⟨a1, a2, a3⟩ := f ⟨2, h, i, 0, 0, 0, 0, 0⟩ ⟨rfl, rfl⟩
  obtain ⟨b1, b2, b3⟩ := f ⟨7, h, i, 0, 65536, 0, 0, 0⟩ ⟨rfl, rfl⟩
  refine ⟨setF g (gtv (rowOf g th) h) i.toNat v, setF (setF g (gtv (rowOf g th) h) i.toNat v) (gtv (rowOf g th) h) i.toNat (Nm.mulw v 65536), hd, ?_, ?_, ?_, by simp [setF], by simp [setF], rfl, rfl⟩
  · rw [do_yes (isTh_set.2 ht) (by rw [errS (.inl rfl), if_pos a1, a2]; show (if isP (hob g th ⟨4, h, i, 0, v, 0, 0, 0⟩) i = true then (8 : Int) else 0) = 0; rw [s2]; rfl)]
    show (_, ((0 : Int), fwd _ th _, _)) = _
    rw [a3]
    rfl
  · rw [do_yes (isTh_set.2 ht) (by rw [errS (.inr (.inr (.inr rfl))), if_pos b1, b2]; show (if isP (hob g th ⟨4, h, i, 0, v, 0, 0, 0⟩) i = true then (8 : Int) else 0) = 0; rw [s2]; rfl)]
    show (setF _ _ _ (Nm.mulw (fwd _ th _) 65536), _) = _
    rw [b3]
    rfl
  · obtain ⟨c1, c2, c3⟩ := fde_set (g := setF g (gtv (rowOf g th) h) i.toNat v) (th := th) (h := h) (i := i) (v := Nm.mulw v 65536) (o := ⟨7, h, i, 0, 65536, 0, 0, 0⟩) (o' := ⟨2, h, i, 0, 0, 0, 0, 0⟩) ⟨rfl, rfl⟩ ⟨rfl, rfl⟩ b1
    rw [row_setF] at c1 c2 c3
    rw [do_yes (isTh_set.2 (isTh_set.2 ht)) (by rw [errS (.inl rfl), if_pos c1, c2, b2]; show (if isP (hob g th ⟨4, h, i, 0, v, 0, 0, 0⟩) i = true then (8 : Int) else 0) = 0; rw [s2]; rfl)]
    show (_, ((0 : Int), fwd _ th _, _)) = _
    rw [c3, show (65536 : Int) = Nm.pk 1 0 from by decide, Nm.mul_1, Nm.nrm_eq]
    rfl
/-! ### Link and follow -/
theorem links_1 {g : Gr} {th h i k : Int} (e : (doG g th ⟨5, h, i, k, 0, 0, 0, 0⟩).2.1 = 0) : ∃ a : Gr, doG g th ⟨5, h, i, k, 0, 0, 0, 0⟩ = (a, (0, 0, false)) ∧ a.1.length = g.1.length ∧ a.2 = g.2 ∧ isTh g th ∧
    (doG a th ⟨3, h, i, 0, 0, 0, 0, 0⟩ = (a, (4, 0, false)) ∨
      ∃ b : Gr, doG a th ⟨3, h, i, 0, 0, 0, 0, 0⟩ = (b, (0, 0, false)) ∧ b.1.length = g.1.length ∧ b.2.length = g.2.length ∧ (rowOf b th).length = (rowOf g th).length + 1 ∧ (rowOf g th).length < 16 ∧ doG b th ⟨8, (rowOf g th).length, 0, k, 0, 0, 0, 0⟩ = (b, (0, 0, true))) := by
  obtain ⟨ht, he, hd⟩ := do_ok e
  obtain ⟨s1, s2, s3⟩ := pnt_5 rfl he
  obtain ⟨a1, a2, a3⟩ := fde_set (g := g) (th := th) (h := h) (i := i) (o := ⟨5, h, i, k, 0, 0, 0, 0⟩) (o' := ⟨3, h, i, 0, 0, 0, 0, 0⟩) (v := gtv (rowOf g th) k) ⟨rfl, rfl⟩ ⟨rfl, rfl⟩ s1
  refine ⟨setF g (gtv (rowOf g th) h) i.toNat (gtv (rowOf g th) k), hd, by simp [setF], rfl, ht, ?_⟩
  have e3 : errG (setF g (gtv (rowOf g th) h) i.toNat (gtv (rowOf g th) k)) th ⟨3, h, i, 0, 0, 0, 0, 0⟩ = rme g th := by
    rw [err3 rfl, if_pos a1, a2]
    show (if isP (hob g th ⟨5, h, i, k, 0, 0, 0, 0⟩) i = true then rme g th else 8) = _
    rw [if_pos s2]
  by_cases q : (rowOf g th).length < 16
  · right
    have e0 : rme g th = 0 := by unfold rme; rw [if_pos q]
    refine ⟨pushG (setF g (gtv (rowOf g th) h) i.toNat (gtv (rowOf g th) k)) th (gtv (rowOf g th) k), ?_, by simp [pushG, setF], by simp [pushG, setF], ?_, q, ?_⟩
    · rw [do_yes (isTh_set.2 ht) (e3.trans e0)]
      show (pushG _ th (fwd _ th _), _) = _
      rw [a3]
      rfl
    · rw [row_push (isTh_set.2 ht), row_setF]; simp
    · obtain ⟨b1, b2⟩ := gte_app (x := gtv (rowOf g th) k) s3
      obtain ⟨c1, c2⟩ := gte_last (xs := rowOf g th) (x := gtv (rowOf g th) k)
      rw [same_of ((isTh_push (x := gtv (rowOf g th) k)).2 (isTh_set.2 ht)) (by rw [row_push (isTh_set.2 ht), row_setF]; exact c1) (by rw [row_push (isTh_set.2 ht), row_setF]; exact b1), row_push (isTh_set.2 ht), row_setF, c2, b2]
      simp
  · left
    have e0 : rme g th = 4 := by unfold rme; rw [if_neg q]
    rw [do_bad (isTh_set.2 ht) (by rw [e3, e0]; decide), e3, e0]
/-! ### A new object -/
theorem fresh_nd {g : Gr} {th : Int} {o : Op} : ndOf (pushG (allocN g o) th (g.1.length + 1)) (g.1.length + 1) = ((o.t, o.l, o.m), List.replicate o.l.toNat 0) := by
  have : ((g.1.length : Int) + 1).toNat - 1 = g.1.length := by omega
  show ((g.1 ++ [((o.t, o.l, o.m), List.replicate o.l.toNat 0)]).getD (((g.1.length : Int) + 1).toNat - 1) _) = _
  rw [this]
  simp [List.getD]
theorem rep_0 (n j : Nat) : (List.replicate n (0 : Int)).getD j 0 = 0 := by
  simp [List.getD, List.getElem?_replicate]
  split <;> rfl
theorem fresh_1 {g : Gr} {th t l m i h : Int} (hR : Rg g) (e : (doG g th ⟨1, 0, 0, 0, 0, t, l, m⟩).2.1 = 0) : ∃ a : Gr, doG g th ⟨1, 0, 0, 0, 0, t, l, m⟩ = (a, (0, 0, false)) ∧ a.1.length = g.1.length + 1 ∧ a.2.length = g.2.length ∧ isTh g th ∧ (rowOf g th).length < 16 ∧
    (∃ e1, doG a th ⟨8, h, 0, (rowOf g th).length, 0, 0, 0, 0⟩ = (a, (e1, 0, decide (h = (rowOf g th).length)))) ∧ (∃ e2, doG a th ⟨2, (rowOf g th).length, i, 0, 0, 0, 0, 0⟩ = (a, (e2, 0, false))) ∧
    ((∃ e3, e3 ≠ 0 ∧ doG a th ⟨3, (rowOf g th).length, i, 0, 0, 0, 0, 0⟩ = (a, (e3, 0, false))) ∨
      ∃ b : Gr, doG a th ⟨3, (rowOf g th).length, i, 0, 0, 0, 0, 0⟩ = (b, (0, 0, false)) ∧ b.1.length = g.1.length + 1 ∧ b.2.length = g.2.length ∧ (rowOf b th).length = (rowOf g th).length + 2 ∧ (rowOf b th).getD ((rowOf g th).length + 1) 0 = 0) := by
  obtain ⟨ht, he, hd⟩ := do_ok e
  obtain ⟨q1, q2⟩ := new_1 rfl he
  have q3 : (rowOf g th).length < 16 := by
    unfold rme at q2
    split at q2
    · assumption
    · cases q2
  have hr : rowOf (allocN g ⟨1, 0, 0, 0, 0, t, l, m⟩) th = rowOf g th := rfl
  have ht1 : isTh (allocN g ⟨1, 0, 0, 0, 0, t, l, m⟩) th := ht
  have ht2 : isTh (pushG (allocN g ⟨1, 0, 0, 0, 0, t, l, m⟩) th (g.1.length + 1)) th := isTh_push.2 ht1
  have hrow : rowOf (pushG (allocN g ⟨1, 0, 0, 0, 0, t, l, m⟩) th (g.1.length + 1)) th = rowOf g th ++ [((g.1.length : Int) + 1)] := by rw [row_push ht1, hr]
  obtain ⟨c1, c2⟩ := gte_last (xs := rowOf g th) (x := (g.1.length : Int) + 1)
  have hbd := fun j => gtv_bd hR ht j
  refine ⟨pushG (allocN g ⟨1, 0, 0, 0, 0, t, l, m⟩) th (g.1.length + 1), hd, by simp [pushG, allocN], by simp [pushG, allocN], ht, q3, ?_, ?_, ?_⟩
  · by_cases q : gte (rowOf g th ++ [((g.1.length : Int) + 1)]) h = 0
    · refine ⟨0, ?_⟩
      rw [same_of ht2 (by rw [hrow]; exact q) (by rw [hrow]; exact c1), hrow, c2]
      congr 3
      rw [decide_eq_decide]
      obtain ⟨h0, h1⟩ := gte_in q
      rw [List.length_append] at h1
      simp only [List.length_cons, List.length_nil, Nat.zero_add] at h1
      constructor
      · intro hh
        by_cases q5 : h < (rowOf g th).length
        · have hg : gte (rowOf g th) h = 0 := by unfold gte; rw [if_pos ⟨h0, q5⟩]
          rw [(gte_app hg).2] at hh
          have := hbd h
          omega
        · omega
      · intro hh
        subst hh
        exact c2
    · have hne : h ≠ (rowOf g th).length := fun q5 => by
        subst q5
        exact q c1
      refine ⟨gte (rowOf g th ++ [((g.1.length : Int) + 1)]) h, ?_⟩
      have e8 : errG (pushG (allocN g ⟨1, 0, 0, 0, 0, t, l, m⟩) th (g.1.length + 1)) th ⟨8, h, 0, (rowOf g th).length, 0, 0, 0, 0⟩ = gte (rowOf g th ++ [((g.1.length : Int) + 1)]) h := by
        rw [err8 rfl, hrow]
        exact if_neg q
      rw [do_bad ht2 (by rw [e8]; exact q), e8, decide_eq_false hne]
  · by_cases q : errG (pushG (allocN g ⟨1, 0, 0, 0, 0, t, l, m⟩) th (g.1.length + 1)) th ⟨2, (rowOf g th).length, i, 0, 0, 0, 0, 0⟩ = 0
    · refine ⟨0, ?_⟩
      rw [do_yes ht2 q]
      show (_, ((0 : Int), (ndOf _ (gtv (rowOf _ th) (rowOf g th).length)).2.getD i.toNat 0, _)) = _
      rw [hrow, c2, fresh_nd, rep_0]
      rfl
    · exact ⟨_, do_bad ht2 q⟩
  · by_cases q : errG (pushG (allocN g ⟨1, 0, 0, 0, 0, t, l, m⟩) th (g.1.length + 1)) th ⟨3, (rowOf g th).length, i, 0, 0, 0, 0, 0⟩ = 0
    · right
      refine ⟨pushG (pushG (allocN g ⟨1, 0, 0, 0, 0, t, l, m⟩) th (g.1.length + 1)) th 0, ?_, by simp [pushG, allocN], by simp [pushG, allocN], ?_, ?_⟩
      · rw [do_yes ht2 q]
        show (pushG _ th ((ndOf _ (gtv (rowOf _ th) (rowOf g th).length)).2.getD i.toNat 0), _) = _
        rw [hrow, c2, fresh_nd, rep_0]
        rfl
      · rw [row_push ht2, hrow]; simp
      · rw [row_push ht2, hrow]; simp [List.getD]
    · exact .inl ⟨_, q, do_bad ht2 q⟩
/-! ### The threads' rows -/
theorem row_ne {g : Gr} {ns : List Nd} {th j : Int} {xs : List Int} (h0 : 0 ≤ th) (h1 : 0 ≤ j) (h : j ≠ th) : rowOf (ns, g.2.set th.toNat xs) j = rowOf g j := by
  have : th.toNat ≠ j.toNat := by omega
  simp [rowOf, List.getD, List.getElem?_set_ne this]
theorem row_near {g : Gr} {ns : List Nd} {th j : Int} {xs : List Int} (ht : isTh g th) (h1 : 0 ≤ j) (h2 : xs.length ≤ (rowOf g th).length + 1) (h3 : (rowOf g th).length ≤ xs.length + 1) : (rowOf (ns, g.2.set th.toNat xs) j).length ≤ (rowOf g j).length + 1 ∧ (rowOf g j).length ≤ (rowOf (ns, g.2.set th.toNat xs) j).length + 1 := by
  by_cases e : j = th
  · subst e
    rw [row_set ht]
    exact ⟨h2, h3⟩
  · rw [row_ne ht.1 h1 e]
    omega
theorem do_rows {g : Gr} {th : Int} {o : Op} {j : Int} (hj : 0 ≤ j) : ((rowOf (doG g th o).1 j).length ≤ (rowOf g j).length + 1 ∧ (rowOf g j).length ≤ (rowOf (doG g th o).1 j).length + 1) ∧
    (j ≠ th ∨ (o.kd = 4 ∨ o.kd = 5 ∨ o.kd = 6 ∨ o.kd = 7 ∨ o.kd = 2 ∨ o.kd = 8) → rowOf (doG g th o).1 j = rowOf g j) := by
  unfold doG
  split
  · rename_i ht
    split
    · show ((rowOf (newG g th o) j).length ≤ _ ∧ _ ≤ (rowOf (newG g th o) j).length + 1) ∧ (_ → rowOf (newG g th o) j = _)
      unfold newG
      split
      · rename_i q
        exact ⟨row_near (g := allocN g o) ht hj (by simp) (by simp; omega), fun h => row_ne (g := allocN g o) ht.1 hj (by omega)⟩
      · split
        · exact ⟨row_near ht hj (by simp) (by simp; omega), fun h => row_ne ht.1 hj (by omega)⟩
        · split
          · exact ⟨⟨by rw [row_setF]; omega, by rw [row_setF]; omega⟩, fun _ => row_setF⟩
          · split
            · exact ⟨row_near ht hj (by simp) (by simp; omega), fun h => row_ne ht.1 hj (by omega)⟩
            · split
              · exact ⟨row_near ht hj (by simp; omega) (by simp; omega), fun h => row_ne ht.1 hj (by omega)⟩
              · exact ⟨⟨by omega, by omega⟩, fun _ => rfl⟩
    · exact ⟨⟨by simp, by simp⟩, fun _ => rfl⟩
  · exact ⟨⟨by simp, by simp⟩, fun _ => rfl⟩
end Go.Proofs.Ytlocllcijncllaa
