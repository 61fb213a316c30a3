/- A field's new word (graph's deed: write): contract. -/
import Derived.Test.YtlocllcijncllaaGk
import Derived.Test.YtlocllcijncllaaNm
namespace Go.Proofs.Ytlocllcijncllaa
open Go.Joins Go.ChangeShapes Go.WideShapes Go.ChangeAt Go.RowKit Go.Deep Go.Shelf Go.Maps
set_option linter.unusedVariables false
set_option linter.unusedSimpArgs false

theorem flatten_set {L : List (List Int)} {j i : Nat} {xs : List Int} (h : L[j]? = some xs) (hi : i < xs.length) (v : Int) : (L.set j (xs.set i v)).flatten = L.flatten.set (off L j + i) v ∧ ∀ k, off (L.set j (xs.set i v)) k = off L k := by
  induction L generalizing j with
  | nil => simp at h
  | cons y r ih =>
    cases j with
    | zero =>
      simp only [List.getElem?_cons_zero, Option.some.injEq] at h
      subst h
      refine ⟨?_, fun k => ?_⟩
      · simp only [List.set_cons_zero, List.flatten_cons, off, List.take_zero, List.flatten_nil, List.length_nil, Nat.zero_add]
        rw [List.set_append_left _ _ hi]
      · cases k with
        | zero => rfl
        | succ k => simp [off]
    | succ j =>
      simp only [List.getElem?_cons_succ] at h
      obtain ⟨e1, e2⟩ := ih h
      have eo : off (y :: r) (j + 1) = y.length + off r j := by simp [off]
      refine ⟨?_, fun k => ?_⟩
      · simp only [List.set_cons_succ, List.flatten_cons]
        rw [e1, eo, Nat.add_assoc, List.set_append_right _ _ (by omega)]
        congr 2
        omega
      · cases k with
        | zero => rfl
        | succ k =>
          have := e2 k
          simp only [off] at this ⊢
          simp only [List.set_cons_succ, List.take_succ_cons, List.flatten_cons, List.length_append]
          rw [this]
theorem Ct.set_ {k : IntKind} {e : TypeId} {base : Nat} {w : World} {us : List Value} {L : List (List Int)} {B j i : Nat} {xs : List Int} (h : Ct k e base w us L B) (hj : L[j]? = some xs) (hi : i < xs.length) (v : Int) :
    Ct k e base (w.setCell ⟨B, off L j + i, none⟩ (.int k v)) us (L.set j (xs.set i v)) B := by
  obtain ⟨e1, e2⟩ := flatten_set hj hi v
  have hjl : j < L.length := by
    rcases Nat.lt_or_ge j L.length with q | q
    · exact q
    · rw [List.getElem?_eq_none q] at hj; cases hj
  refine ⟨by rw [List.length_set]; exact h.len, fun a u ys h1 h2 => ?_, fun q => ?_, fun ys hy => ?_⟩
  · rw [e2]
    by_cases ha : a = j
    · subst ha
      rw [List.getElem?_set_self hjl] at h2
      cases h2
      rw [List.length_set]
      obtain ⟨A, q1, q2, q3⟩ := h.row a u xs h1 hj
      exact ⟨A, q1, q2, fun _ => q3 (fun q => by rw [q] at hi; simp at hi)⟩
    · rw [List.getElem?_set_ne (fun q => ha q.symm)] at h2
      exact h.row a u ys h1 h2
  · have hf : L.flatten ≠ [] := fun q2 => q (by rw [e1, q2]; rfl)
    obtain ⟨h1, cs, h2, h3⟩ := h.blk hf
    refine ⟨h1, _, h2.set_ (off L j + i) (.int k v), fun a x hx => ?_⟩
    rw [e1] at hx
    have hlt : off L j + i < cs.size := by
      have := h3 (off L j + i) _ (flat_at hj (List.getElem?_eq_getElem hi))
      rcases Nat.lt_or_ge (off L j + i) cs.size with q | q
      · exact q
      · rw [Array.getElem?_eq_none q] at this; cases this
    by_cases ha : a = off L j + i
    · subst ha
      have hl2 : off L j + i < L.flatten.length := by
        rcases Nat.lt_or_ge (off L j + i) L.flatten.length with q | q
        · exact q
        · rw [List.getElem?_eq_none (by simpa using q)] at hx; cases hx
      rw [List.getElem?_set_self hl2] at hx
      cases hx
      rw [Array.getElem?_setIfInBounds_self_of_lt hlt]
    · rw [List.getElem?_set_ne (fun q => ha q.symm)] at hx
      rw [Array.getElem?_setIfInBounds_ne (fun q => ha q.symm)]
      exact h3 a x hx
  · rcases List.mem_or_eq_of_mem_set hy with q | q
    · exact h.short ys q
    · rw [q, List.length_set]; exact h.short xs (List.mem_of_getElem? hj)
/-- A node's field is another word. -/
def setF (g : Gr) (n : Int) (i : Nat) (v : Int) : Gr := (g.1.set (n.toNat - 1) ((ndOf g n).1, (ndOf g n).2.set i v), g.2)
theorem nvs_same : ∀ (ns : List Nd) (us : List Value) (j : Nat) (n : Nd) (f : List Int), ns[j]? = some n → nvs (ns.set j (n.1, f)) us = nvs ns us
  | [], us, j, n, f, h => by simp at h
  | m :: r, [], j, n, f, h => by cases j <;> rfl
  | m :: r, u :: us, 0, n, f, h => by simp at h; subst h; rfl
  | m :: r, u :: us, j + 1, n, f, h => by simp [nvs, nvs_same r us j n f (by simpa using h)]
theorem set_st {base D i : Nat} {w : World} {g : Gr} {th n v : Int} {o : Op} {s : Kn} {vn vs : Value} {us us2 : List Value} {BF GS BS : Nat} (hD : Blk w D 70 (dcs vn vs th o s)) (hO : OwnG base w vn vs g us us2 BF GS BS) (hB : base ≤ D) (hin : inN g n) (hi : i < (ndOf g n).2.length) :
    Kf base w (w.setCell ⟨BF, off (g.1.map (·.2)) (n.toNat - 1) + i, none⟩ (.int .u64 v)) ∧ St base D (w.setCell ⟨BF, off (g.1.map (·.2)) (n.toNat - 1) + i, none⟩ (.int .u64 v)) (setF g n i v) th o s := by
  obtain ⟨h0, h1⟩ := hin
  have hj : n.toNat - 1 < g.1.length := by omega
  have hgj : g.1[n.toNat - 1]? = some (ndOf g n) := by simp [ndOf, List.getD, List.getElem?_eq_getElem hj]
  have hLj : (g.1.map (·.2))[n.toNat - 1]? = some (ndOf g n).2 := by rw [List.getElem?_map, hgj]; rfl
  have hf : (g.1.map (·.2)).flatten ≠ [] := fun q => by
    have := flat_at hLj (List.getElem?_eq_getElem hi)
    rw [q] at this
    simp at this
  obtain ⟨hb, cs, hF, -⟩ := hO.flds.blk hf
  refine ⟨Kf.set_ hF hb (by decide) (by decide) _ _, vn, vs, us, us2, BF, GS, BS, hD.far (p := ⟨BF, _, none⟩) (hD.ne_type hF (by decide)) _, ⟨?_, ?_, hO.val, hO.grid.far (p := ⟨BF, _, none⟩) (hO.grid.ne_type hF (by decide)) _, hO.rows.far hF (by decide) _ _, hO.ge, hO.few⟩, hB⟩
  · show World.ownsRow _ base 62 4 vn (g.1.set (n.toNat - 1) ((ndOf g n).1, (ndOf g n).2.set i v)).length (nvs (g.1.set (n.toNat - 1) ((ndOf g n).1, (ndOf g n).2.set i v)) us)
    rw [List.length_set, nvs_same _ _ _ _ _ hgj]
    exact own_far hO.nodes hF (by decide) _ _
  · show Ct .u64 26 base _ us ((g.1.set (n.toNat - 1) ((ndOf g n).1, (ndOf g n).2.set i v)).map (·.2)) BF
    rw [List.map_set]
    exact hO.flds.set_ hLj hi v

/-- The new word. -/
def wrt (o : Op) (s : Kn) (x : Int) : Int := if o.kd = 6 then Nm.addw x o.v else if o.kd = 7 then Nm.mulw x o.v else if o.kd = 5 then s.k else o.v

set_option maxHeartbeats 2000000 in
theorem write_6 (base D : Nat) (g : Gr) (th : Int) (o : Op) (s : Kn) (w : World) (hS : St base D w g th o s) (hin : inN g s.h) (i : Nat) (hi : o.i = i) (hil : i < (ndOf g s.h).2.length) (hkd : o.kd = 6) (hx0 : 0 ≤ (ndOf g s.h).2.getD i 0) (hv0 : 0 ≤ o.v) :
    Calls Try.prog 59 #[.pointer (some ⟨D, 0, none⟩)] w (Lp base D (setF g s.h i (Nm.addw ((ndOf g s.h).2.getD i 0) o.v)) th o s w) := by
  obtain ⟨vn, vs, us, us2, BF, GS, BS, hD, hO, hB⟩ := hS
  obtain ⟨p, u, hu, ⟨c0, c1, c2, c3⟩, hs, hn⟩ := node_in D vn vs th o s g us w hD hO.ns hin
  have HN := Lib.hid hn
  have hj : s.h.toNat - 1 < g.1.length := by have := hin.1; have := hin.2; omega
  have hgj : (g.1.map (·.2))[s.h.toNat - 1]? = some (ndOf g s.h).2 := by simp [ndOf, List.getD, List.getElem?_eq_getElem hj]
  obtain ⟨A, rfl, -, hA⟩ := hO.flds.row _ _ _ hu hgj
  have hne : (ndOf g s.h).2 ≠ [] := fun q => by rw [q] at hil; simp at hil
  obtain rfl := hA hne
  obtain ⟨pf, e, hcf⟩ := hs.at_ hil
  obtain ⟨pa, hpa⟩ : ∃ pa : Addr, pa = ⟨BF, off (g.1.map (·.2)) (s.h.toNat - 1), none⟩ := ⟨_, rfl⟩
  have e2 : pa = pf := by rw [hpa]; exact Option.some.inj e
  subst e2
  have hpi : pa.add i = ⟨BF, off (g.1.map (·.2)) (s.h.toNat - 1) + i, none⟩ := by rw [hpa, add_off]
  have hf : (g.1.map (·.2)).flatten ≠ [] := fun q => by
    have := flat_at hgj (List.getElem?_eq_getElem hil)
    rw [q] at this
    simp at this
  obtain ⟨-, cs, hF, -⟩ := hO.flds.blk hf
  have HFZ : Hid (∀ w', Up w w' → w'.frozen? (pa.add i) = false ∧ (pa.add i).block < w'.heap.size) := Lib.hid (fun w' k => by rw [hpi]; exact ⟨(hF.up k).frozen _, (hF.up k).lt⟩)
  have HSET : Hid (∀ w', Up w w' → Kf base w' (w'.setCell (pa.add i) (.int .u64 ((Nm.addw ((ndOf g s.h).2.getD i 0) o.v)))) ∧ St base D (w'.setCell (pa.add i) (.int .u64 ((Nm.addw ((ndOf g s.h).2.getD i 0) o.v)))) (setF g s.h i ((Nm.addw ((ndOf g s.h).2.getD i 0) o.v))) th o s) := Lib.hid (fun w' k => by rw [hpi]; exact set_st (hD.up k) (hO.up k) hB hin hil)
  have hlm := hs.max
  unfold maxLen at hlm
  rw [← hpa] at c3
  generalize p.add ((s.h.toNat - 1) * 4) = q at *
  have HIL := Lib.hid hil
  have HOP := Lib.hid (fun w => Nm.add_any ((ndOf g s.h).2.getD i 0) o.v hx0 hv0 w)
  generalize (ndOf g s.h).2.getD i 0 = x at *
  generalize (ndOf g s.h).2.length = ln at *
  have HD := Lib.hid hD
  have hcD := hD.cell
  unfold dcs at hcD
  rw [hi, hkd] at hcD
  have hlD := hD.lt
  have hqb := lt_of_cell c3
  clear c0 c1 c2 hs hn hD hO hu hgj hj hne hA hpa hpi hF hf e hin
  go_enter Try.func59, Try.ntmps59
  go_wp2_with (fail)
  go_quiet ((go_at_call 77; with_reducible exact Qt.q (HN.out _ (Up.drewN (Up.refl w) _))))
  obtain ⟨hfz, hlz⟩ := HFZ.out _ (Up.drewN (Up.refl w) nq)
  go_wp2_with (fail)
  refine (HOP.out _).mono ?_
  rintro e w2 ⟨rfl, hz⟩
  have hz2 := ((Up.refl w).drewN nq).trans hz
  have hcz := hz2.cell hcf
  obtain ⟨hfz, hlz⟩ := HFZ.out _ hz2
  obtain ⟨k1, k2⟩ := HSET.out _ hz2
  have HK := Lib.hid ((Kf.of_up (base := base) hz2).trans k1)
  have HS2 := Lib.hid k2.fn
  clear k1 k2 hz hz2 HN HSET HFZ
  go_wp2
  go_ret
  exact ⟨rfl, HK.out, HS2.out⟩

set_option maxHeartbeats 2000000 in
theorem write_7 (base D : Nat) (g : Gr) (th : Int) (o : Op) (s : Kn) (w : World) (hS : St base D w g th o s) (hin : inN g s.h) (i : Nat) (hi : o.i = i) (hil : i < (ndOf g s.h).2.length) (hkd : o.kd = 7) (hx0 : 0 ≤ (ndOf g s.h).2.getD i 0) (hv0 : 0 ≤ o.v) :
    Calls Try.prog 59 #[.pointer (some ⟨D, 0, none⟩)] w (Lp base D (setF g s.h i (Nm.mulw ((ndOf g s.h).2.getD i 0) o.v)) th o s w) := by
  obtain ⟨vn, vs, us, us2, BF, GS, BS, hD, hO, hB⟩ := hS
  obtain ⟨p, u, hu, ⟨c0, c1, c2, c3⟩, hs, hn⟩ := node_in D vn vs th o s g us w hD hO.ns hin
  have HN := Lib.hid hn
  have hj : s.h.toNat - 1 < g.1.length := by have := hin.1; have := hin.2; omega
  have hgj : (g.1.map (·.2))[s.h.toNat - 1]? = some (ndOf g s.h).2 := by simp [ndOf, List.getD, List.getElem?_eq_getElem hj]
  obtain ⟨A, rfl, -, hA⟩ := hO.flds.row _ _ _ hu hgj
  have hne : (ndOf g s.h).2 ≠ [] := fun q => by rw [q] at hil; simp at hil
  obtain rfl := hA hne
  obtain ⟨pf, e, hcf⟩ := hs.at_ hil
  obtain ⟨pa, hpa⟩ : ∃ pa : Addr, pa = ⟨BF, off (g.1.map (·.2)) (s.h.toNat - 1), none⟩ := ⟨_, rfl⟩
  have e2 : pa = pf := by rw [hpa]; exact Option.some.inj e
  subst e2
  have hpi : pa.add i = ⟨BF, off (g.1.map (·.2)) (s.h.toNat - 1) + i, none⟩ := by rw [hpa, add_off]
  have hf : (g.1.map (·.2)).flatten ≠ [] := fun q => by
    have := flat_at hgj (List.getElem?_eq_getElem hil)
    rw [q] at this
    simp at this
  obtain ⟨-, cs, hF, -⟩ := hO.flds.blk hf
  have HFZ : Hid (∀ w', Up w w' → w'.frozen? (pa.add i) = false ∧ (pa.add i).block < w'.heap.size) := Lib.hid (fun w' k => by rw [hpi]; exact ⟨(hF.up k).frozen _, (hF.up k).lt⟩)
  have HSET : Hid (∀ w', Up w w' → Kf base w' (w'.setCell (pa.add i) (.int .u64 ((Nm.mulw ((ndOf g s.h).2.getD i 0) o.v)))) ∧ St base D (w'.setCell (pa.add i) (.int .u64 ((Nm.mulw ((ndOf g s.h).2.getD i 0) o.v)))) (setF g s.h i ((Nm.mulw ((ndOf g s.h).2.getD i 0) o.v))) th o s) := Lib.hid (fun w' k => by rw [hpi]; exact set_st (hD.up k) (hO.up k) hB hin hil)
  have hlm := hs.max
  unfold maxLen at hlm
  rw [← hpa] at c3
  generalize p.add ((s.h.toNat - 1) * 4) = q at *
  have HIL := Lib.hid hil
  have HOP := Lib.hid (fun w => Nm.mul_any ((ndOf g s.h).2.getD i 0) o.v hx0 hv0 w)
  generalize (ndOf g s.h).2.getD i 0 = x at *
  generalize (ndOf g s.h).2.length = ln at *
  have HD := Lib.hid hD
  have hcD := hD.cell
  unfold dcs at hcD
  rw [hi, hkd] at hcD
  have hlD := hD.lt
  have hqb := lt_of_cell c3
  clear c0 c1 c2 hs hn hD hO hu hgj hj hne hA hpa hpi hF hf e hin
  go_enter Try.func59, Try.ntmps59
  go_wp2_with (fail)
  go_quiet ((go_at_call 77; with_reducible exact Qt.q (HN.out _ (Up.drewN (Up.refl w) _))))
  obtain ⟨hfz, hlz⟩ := HFZ.out _ (Up.drewN (Up.refl w) nq)
  go_wp2_with (fail)
  refine (HOP.out _).mono ?_
  rintro e w2 ⟨rfl, hz⟩
  have hz2 := ((Up.refl w).drewN nq).trans hz
  have hcz := hz2.cell hcf
  obtain ⟨hfz, hlz⟩ := HFZ.out _ hz2
  obtain ⟨k1, k2⟩ := HSET.out _ hz2
  have HK := Lib.hid ((Kf.of_up (base := base) hz2).trans k1)
  have HS2 := Lib.hid k2.fn
  clear k1 k2 hz hz2 HN HSET HFZ
  go_wp2
  go_ret
  exact ⟨rfl, HK.out, HS2.out⟩

set_option maxHeartbeats 2000000 in
theorem write_5 (base D : Nat) (g : Gr) (th : Int) (o : Op) (s : Kn) (w : World) (hS : St base D w g th o s) (hin : inN g s.h) (i : Nat) (hi : o.i = i) (hil : i < (ndOf g s.h).2.length) (hkd : o.kd = 5) (hk0 : 0 ≤ s.k) (hk1 : s.k ≤ 1000000) :
    Calls Try.prog 59 #[.pointer (some ⟨D, 0, none⟩)] w (Lp base D (setF g s.h i s.k) th o s w) := by
  obtain ⟨vn, vs, us, us2, BF, GS, BS, hD, hO, hB⟩ := hS
  obtain ⟨p, u, hu, ⟨c0, c1, c2, c3⟩, hs, hn⟩ := node_in D vn vs th o s g us w hD hO.ns hin
  have HN := Lib.hid hn
  have hj : s.h.toNat - 1 < g.1.length := by have := hin.1; have := hin.2; omega
  have hgj : (g.1.map (·.2))[s.h.toNat - 1]? = some (ndOf g s.h).2 := by simp [ndOf, List.getD, List.getElem?_eq_getElem hj]
  obtain ⟨A, rfl, -, hA⟩ := hO.flds.row _ _ _ hu hgj
  have hne : (ndOf g s.h).2 ≠ [] := fun q => by rw [q] at hil; simp at hil
  obtain rfl := hA hne
  obtain ⟨pf, e, hcf⟩ := hs.at_ hil
  obtain ⟨pa, hpa⟩ : ∃ pa : Addr, pa = ⟨BF, off (g.1.map (·.2)) (s.h.toNat - 1), none⟩ := ⟨_, rfl⟩
  have e2 : pa = pf := by rw [hpa]; exact Option.some.inj e
  subst e2
  have hpi : pa.add i = ⟨BF, off (g.1.map (·.2)) (s.h.toNat - 1) + i, none⟩ := by rw [hpa, add_off]
  have hf : (g.1.map (·.2)).flatten ≠ [] := fun q => by
    have := flat_at hgj (List.getElem?_eq_getElem hil)
    rw [q] at this
    simp at this
  obtain ⟨-, cs, hF, -⟩ := hO.flds.blk hf
  have HFZ : Hid (∀ w', Up w w' → w'.frozen? (pa.add i) = false ∧ (pa.add i).block < w'.heap.size) := Lib.hid (fun w' k => by rw [hpi]; exact ⟨(hF.up k).frozen _, (hF.up k).lt⟩)
  have HSET : Hid (∀ w', Up w w' → Kf base w' (w'.setCell (pa.add i) (.int .u64 (s.k))) ∧ St base D (w'.setCell (pa.add i) (.int .u64 (s.k))) (setF g s.h i (s.k)) th o s) := Lib.hid (fun w' k => by rw [hpi]; exact set_st (hD.up k) (hO.up k) hB hin hil)
  have hlm := hs.max
  unfold maxLen at hlm
  rw [← hpa] at c3
  generalize p.add ((s.h.toNat - 1) * 4) = q at *
  have HIL := Lib.hid hil
  skip
  generalize (ndOf g s.h).2.getD i 0 = x at *
  generalize (ndOf g s.h).2.length = ln at *
  have HD := Lib.hid hD
  have hcD := hD.cell
  unfold dcs at hcD
  rw [hi, hkd] at hcD
  have hlD := hD.lt
  have hqb := lt_of_cell c3
  clear c0 c1 c2 hs hn hD hO hu hgj hj hne hA hpa hpi hF hf e hin
  go_enter Try.func59, Try.ntmps59
  go_wp2_with (fail)
  go_quiet ((go_at_call 77; with_reducible exact Qt.q (HN.out _ (Up.drewN (Up.refl w) _))))
  obtain ⟨hfz, hlz⟩ := HFZ.out _ (Up.drewN (Up.refl w) nq)
  go_wp2_with (fail)
  go_ret
  obtain ⟨k1, k2⟩ := HSET.out _ (Up.drewN (Up.refl w) nq)
  exact ⟨rfl, (Kf.of_up ((Up.refl w).drewN nq)).trans k1, k2.fn⟩

set_option maxHeartbeats 2000000 in
theorem write_4 (base D : Nat) (g : Gr) (th : Int) (o : Op) (s : Kn) (w : World) (hS : St base D w g th o s) (hin : inN g s.h) (i : Nat) (hi : o.i = i) (hil : i < (ndOf g s.h).2.length) (hkd : o.kd = 4) :
    Calls Try.prog 59 #[.pointer (some ⟨D, 0, none⟩)] w (Lp base D (setF g s.h i o.v) th o s w) := by
  obtain ⟨vn, vs, us, us2, BF, GS, BS, hD, hO, hB⟩ := hS
  obtain ⟨p, u, hu, ⟨c0, c1, c2, c3⟩, hs, hn⟩ := node_in D vn vs th o s g us w hD hO.ns hin
  have HN := Lib.hid hn
  have hj : s.h.toNat - 1 < g.1.length := by have := hin.1; have := hin.2; omega
  have hgj : (g.1.map (·.2))[s.h.toNat - 1]? = some (ndOf g s.h).2 := by simp [ndOf, List.getD, List.getElem?_eq_getElem hj]
  obtain ⟨A, rfl, -, hA⟩ := hO.flds.row _ _ _ hu hgj
  have hne : (ndOf g s.h).2 ≠ [] := fun q => by rw [q] at hil; simp at hil
  obtain rfl := hA hne
  obtain ⟨pf, e, hcf⟩ := hs.at_ hil
  obtain ⟨pa, hpa⟩ : ∃ pa : Addr, pa = ⟨BF, off (g.1.map (·.2)) (s.h.toNat - 1), none⟩ := ⟨_, rfl⟩
  have e2 : pa = pf := by rw [hpa]; exact Option.some.inj e
  subst e2
  have hpi : pa.add i = ⟨BF, off (g.1.map (·.2)) (s.h.toNat - 1) + i, none⟩ := by rw [hpa, add_off]
  have hf : (g.1.map (·.2)).flatten ≠ [] := fun q => by
    have := flat_at hgj (List.getElem?_eq_getElem hil)
    rw [q] at this
    simp at this
  obtain ⟨-, cs, hF, -⟩ := hO.flds.blk hf
  have HFZ : Hid (∀ w', Up w w' → w'.frozen? (pa.add i) = false ∧ (pa.add i).block < w'.heap.size) := Lib.hid (fun w' k => by rw [hpi]; exact ⟨(hF.up k).frozen _, (hF.up k).lt⟩)
  have HSET : Hid (∀ w', Up w w' → Kf base w' (w'.setCell (pa.add i) (.int .u64 (o.v))) ∧ St base D (w'.setCell (pa.add i) (.int .u64 (o.v))) (setF g s.h i (o.v)) th o s) := Lib.hid (fun w' k => by rw [hpi]; exact set_st (hD.up k) (hO.up k) hB hin hil)
  have hlm := hs.max
  unfold maxLen at hlm
  rw [← hpa] at c3
  generalize p.add ((s.h.toNat - 1) * 4) = q at *
  have HIL := Lib.hid hil
  skip
  generalize (ndOf g s.h).2.getD i 0 = x at *
  generalize (ndOf g s.h).2.length = ln at *
  have HD := Lib.hid hD
  have hcD := hD.cell
  unfold dcs at hcD
  rw [hi, hkd] at hcD
  have hlD := hD.lt
  have hqb := lt_of_cell c3
  clear c0 c1 c2 hs hn hD hO hu hgj hj hne hA hpa hpi hF hf e hin
  go_enter Try.func59, Try.ntmps59
  go_wp2_with (fail)
  go_quiet ((go_at_call 77; with_reducible exact Qt.q (HN.out _ (Up.drewN (Up.refl w) _))))
  obtain ⟨hfz, hlz⟩ := HFZ.out _ (Up.drewN (Up.refl w) nq)
  go_wp2_with (fail)
  go_ret
  obtain ⟨k1, k2⟩ := HSET.out _ (Up.drewN (Up.refl w) nq)
  exact ⟨rfl, (Kf.of_up ((Up.refl w).drewN nq)).trans k1, k2.fn⟩
end Go.Proofs.Ytlocllcijncllaa
