/- How a step's state changes; handles are pushed and popped into new rows. -/
import Derived.Test.YtddoljfkbkbfjaaGreatTd
namespace Go.Proofs.YtddoljfkbkbfjaaGreat.T
open G
open Go.Joins Go.ChangeShapes Go.WideShapes Go.ChangeAt Go.RowKit Go.Deep Go.Shelf Go.Maps
set_option linter.unusedVariables false
set_option linter.unusedSimpArgs false

/-- A slice that is made since, or the one that was. -/
def NewV (n : Nat) (v0 v : Value) : Prop := v = v0 ∨ ∀ p k c, v = .slice (some p) k c → k ≠ 0 → n ≤ p.block
theorem new_of_lo {w : World} {n : Nat} {v v0 : Value} {xs : List Int} (h : Lo w n v xs) : NewV n v0 v := .inr fun p k c e _ => by
  subst e
  exact (World.ownsRow.lt h p.block rfl).1
theorem NewV.ap {n : Nat} {v0 v : Value} {X : List Nat} (h : NewV n v0 v) (h0 : Ap X v0) (hX : ∀ g ∈ X, g < n) : Ap X v := fun p k c e hk q => by
  rcases h with rfl | h
  · exact h0 p k c e hk q
  · have := h p k c e hk
    have := hX _ q
    omega
def RePostN (v0 : Value) (xs : List Int) (er : Int) (w : World) (e : Ending) (w' : World) : Prop := ∃ v, e = .returned (.tuple #[v, .int .i64 er]) ∧ K.Sl w' v xs ∧ NewV w.heap.size v0 v ∧ Up w w'
theorem npush_ok (A : Option Addr) (n c : Nat) (xs : List Int) (a : Int) (w : World) (hx : Rd w A n xs) (hn : A = none → n = 0 ∧ c = 0) (hc : n ≤ c) (hcm : c ≤ maxLen) (h : n < 16) (v0 : Value) : Calls Tryz.prog 105 #[.slice A n c, .int .u64 a] w (RePostN v0 (xs ++ [a]) 0 w) := by
  have hd : decide ((16 : Int) ≤ n) = false := decide_eq_false (by omega)
  unfold maxLen at hcm
  go_enter Tryz.func105, Tryz.ntmps105
  cases A
  · obtain ⟨rfl, rfl⟩ := hn rfl
    go_wp2_with (at_builtin; refine K.wpList_more rfl _ _ rfl none xs 0 rfl (hx.up ((Up.refl w).alloc _)) ⟨w.heap.size, 0, none⟩ [a] 1 1 rfl rfl (Blk.row (xs := [a]) (Blk.new w _ _)) (by omega) (by omega) ?_; intro v' w' hown hup)
    go_ret2
    exact ⟨_, rfl, K.Sl.of_lo hown, new_of_lo (hown.le (by simp)), ((Up.refl w).alloc _).trans hup⟩
  · clear hn
    go_wp2_with (at_builtin; refine K.wpList_more rfl _ _ rfl (some _) xs n rfl (hx.up ((Up.refl w).alloc _)) ⟨w.heap.size, 0, none⟩ [a] 1 1 rfl rfl (Blk.row (xs := [a]) (Blk.new w _ _)) (by omega) (by omega) ?_; intro v' w' hown hup)
    go_ret2
    exact ⟨_, rfl, K.Sl.of_lo hown, new_of_lo (hown.le (by simp)), ((Up.refl w).alloc _).trans hup⟩
theorem npush_any (v : Value) (xs : List Int) (a : Int) (w : World) (hx : K.Sl w v xs) : Calls Tryz.prog 105 #[v, .int .u64 a] w (RePostN v (K.pus xs a) (K.pue xs) w) := by
  have hx0 := hx
  obtain ⟨A, c, rfl, h1, h2, h3, hr⟩ := hx
  unfold K.pus K.pue
  by_cases h : xs.length < 16
  · rw [if_pos h, if_pos h]
    refine npush_ok A _ c xs a w hr (fun e => ?_) h1 h2 h _
    have := h3 e
    omega
  · rw [if_neg h, if_neg h]
    have hd : decide ((16 : Int) ≤ (xs.length : Nat)) = true := decide_eq_true (by omega)
    generalize xs.length = n at *
    go_enter Tryz.func105, Tryz.ntmps105
    go_wp2
    go_ret2
    exact ⟨_, rfl, hx0, .inl rfl, Up.refl _⟩
theorem npop_any (v : Value) (xs : List Int) (w : World) (hx : K.Sl w v xs) (hb : xs.length ≤ 17592186044416) : Calls Tryz.prog 107 #[v] w (RePostN v (K.pos xs) (K.poe xs) w) := by
  have hx0 := hx
  obtain ⟨A, c, rfl, h1, h2, h3, hr⟩ := hx
  unfold K.pos K.poe
  by_cases h : xs = []
  · subst h
    rw [if_pos rfl]
    have hd : (((([] : List Int).length : Nat) : Int) == 0) = true := rfl
    go_enter Tryz.func107, Tryz.ntmps107
    go_wp2
    go_ret2
    exact ⟨_, rfl, hx0, .inl rfl, Up.refl _⟩
  · rw [if_neg h]
    have hp : 0 < xs.length := List.length_pos_iff.2 h
    obtain ⟨p, rfl, hw⟩ := hr.2 hp
    have hd : ((xs.length : Int) == 0) = false := beq_eq_false_iff_ne.2 (by omega)
    have ha := Lib.hid (K.anew_any _ _ w (K.Sl.cut hw rfl (xs.length - 1) (by omega) h1 h2) (by rw [List.length_take]; omega))
    unfold maxLen at h2
    have e1 : ((xs.length : Int) - 1) = ((xs.length - 1 : Nat) : Int) := by omega
    have HL : Hid (xs.take (xs.length - 1) ≠ [] ∨ (xs.take (xs.length - 1)).length = 0) := Lib.hid (by
      by_cases q : xs.take (xs.length - 1) = []
      · right; rw [q]; rfl
      · exact .inl q)
    clear hx0 hr h hw h3
    generalize hys : xs.take (xs.length - 1) = ys at *
    clear hys
    generalize xs.length = n at *
    go_enter Tryz.func107, Tryz.ntmps107
    go_wp2_with (fail)
    refine ha.out.mono ?_
    rintro e w1 ⟨v, rfl, hs, hlo, hu⟩
    have HS := Lib.hid hs
    have HN : Hid (NewV w.heap.size (.slice (some p) n c) v) := Lib.hid (by
      rcases HL.out with q | q
      · exact new_of_lo (hlo q)
      · refine .inr fun p' k c' e hk => ?_
        obtain ⟨A, c2, e2, _⟩ := hs
        rw [e2] at e
        cases e
        omega)
    clear hs hlo
    go_wp2
    go_ret2
    exact ⟨v, rfl, HS.out, HN.out, hu⟩
/-- What a step comes to. -/
def Sp (base D T : Nat) (S3 : List Nat) (x : Int) (h : Hp) (j : Nat) (o : Op) (s : Ks) (w : World) (en : Ending) (w' : World) : Prop := en = .returned (.int .i64 x) ∧ Kp [D, T] w w' ∧ St base D T S3 h j o s w'
theorem Rs.at_ {base D T : Nat} {S3 : List Nat} {h : Hp} {j : Nat} {us : List Tv} {P Q : Addr} {c d : Nat} {vo : Value} {w : World} {t : Th} (r : Rs base D T S3 h j us P Q c d vo w) (ht : h.th[j]? = some t) : ∃ u, us[j]? = some u ∧ OwT base (D :: T :: S3) S3 w u t :=
  ⟨us[j]'r.lt, List.getElem?_eq_getElem r.lt, r.own _ t (List.getElem?_eq_getElem r.lt) ht⟩
theorem tcs {w : World} {T j : Nat} {us zs : List Tv} {u : Tv} (hT : Blk w T 44 ((us ++ zs).flatMap tvc).toArray) (hu : us[j]? = some u) : w.cell? ⟨T, j * 8, none⟩ = some u.st ∧ w.cell? ⟨T, j * 8 + 1, none⟩ = some (.int .i64 u.ba) ∧ w.cell? ⟨T, j * 8 + 2, none⟩ = some (.int .i64 u.be) ∧ w.cell? ⟨T, j * 8 + 3, none⟩ = some u.lg ∧ w.cell? ⟨T, j * 8 + 4, none⟩ = some u.lf ∧ w.cell? ⟨T, j * 8 + 5, none⟩ = some u.pd ∧ w.cell? ⟨T, j * 8 + 6, none⟩ = some (.bool u.wt) ∧ w.cell? ⟨T, j * 8 + 7, none⟩ = some u.dn :=
  ⟨tcell hT hu 0 (by decide), tcell hT hu 1 (by decide), tcell hT hu 2 (by decide), tcell hT hu 3 (by decide), tcell hT hu 4 (by decide), tcell hT hu 5 (by decide), tcell hT hu 6 (by decide), tcell hT hu 7 (by decide)⟩
section
variable {base D T : Nat} {S3 : List Nat} {h : Hp} {j : Nat} {o : Op} {s : Ks} {w wz : World}
theorem kp_D (D T : Nat) (w : World) (i : Nat) (v : Value) : Kp [D, T] w (w.setCell ⟨D, i, none⟩ v) := (Kp.refl _ _).set_ (by simp) _
theorem kp_T (D T : Nat) (w : World) (i : Nat) (v : Value) : Kp [D, T] w (w.setCell ⟨T, i, none⟩ v) := (Kp.refl _ _).set_ (by simp) _
/-- A cell of the step's own is another one. -/
theorem St.setD (hS : St base D T S3 h j o s w) (k : Up w wz) (i : Nat) (v : Value) (s' : Ks) (he : ∀ P Q c d vt vo, (stc h P Q c d vt vo j ⟨T, j * 8, none⟩ o s).setIfInBounds i v = stc h P Q c d vt vo j ⟨T, j * 8, none⟩ o s') :
    Kp [D, T] w (wz.setCell ⟨D, i, none⟩ v) ∧ St base D T S3 h j o s' (wz.setCell ⟨D, i, none⟩ v) := by
  obtain ⟨us, P, Q, c, d, A, co, cT, hD, hT, h1, h2, h3, h4, hR⟩ := hS
  have hne : D ≠ T := (hD.ne_type hT (by decide))
  have hK := (Kp.of_up k).trans (kp_D D T wz i v)
  have hD' := (hD.up k).set_ i v
  rw [he] at hD'
  exact ⟨hK, us, P, Q, c, d, A, co, cT, hD', (hT.up k).far (p := ⟨D, i, none⟩) (fun e => hne e.symm) v, h1, h2, h3, h4, hR.kp hK⟩
/-- A cell of the thread's is another one. -/
theorem St.setT (hS : St base D T S3 h j o s w) (k : Up w wz) (i : Nat) (hi : i < 8) (v : Value) {t t' : Th} (ht : h.th[j]? = some t)
    (he : ∀ u, OwT base (D :: T :: S3) S3 wz u t → ∃ u', tvc u' = (tvc u).set i v ∧ OwT base (D :: T :: S3) S3 wz u' t') :
    Kp [D, T] w (wz.setCell ⟨T, j * 8 + i, none⟩ v) ∧ St base D T S3 { h with th := h.th.set j t' } j o s (wz.setCell ⟨T, j * 8 + i, none⟩ v) := by
  obtain ⟨us, P, Q, c, d, A, co, cT, hD, hT, h1, h2, h3, h4, hR⟩ := hS
  have hne : D ≠ T := (hD.ne_type hT (by decide))
  have hK := (Kp.of_up k).trans (kp_T D T wz (j * 8 + i) v)
  have hRz := hR.up k
  obtain ⟨u, hu, hO⟩ := hRz.at_ ht
  obtain ⟨u', e1, hO'⟩ := he u hO
  have hT' := tset (hT.up k) hu i hi e1
  refine ⟨hK, us.set j u', P, Q, c, d, A, co, cT, ?_, ?_, by rw [List.length_set]; exact h1, h2, h3, h4, ?_⟩
  · rw [List.length_set]
    exact (hD.up k).far (p := ⟨T, j * 8 + i, none⟩) hne v
  · rw [List.length_set]
    exact hT'
  · exact (hRz.set_ hu ht hO').kp (kp_T D T wz (j * 8 + i) v)
theorem St.lt (hS : St base D T S3 h j o s w) : ∀ g ∈ D :: T :: S3, g < w.heap.size := by
  obtain ⟨us, P, Q, c, d, A, co, cT, hD, hT, h1, h2, h3, h4, hR⟩ := hS
  intro g hg
  simp only [List.mem_cons] at hg
  rcases hg with rfl | rfl | hg
  · exact hD.lt
  · exact hT.lt
  · obtain ⟨_, t, cs, hb, _⟩ := hR.s3 g hg
    exact hb.lt
/-- The thread's handles are others. -/
theorem St.stack (hS : St base D T S3 h j o s w) (k : Up w wz) {t : Th} (ht : h.th[j]? = some t) {v : Value} {xs : List Int} (hv : K.Sl wz v xs) (ha : Ap (D :: T :: S3) v) :
    Kp [D, T] w (wz.setCell ⟨T, j * 8, none⟩ v) ∧ St base D T S3 { h with th := h.th.set j { t with st := xs } } j o s (wz.setCell ⟨T, j * 8, none⟩ v) :=
  hS.setT k 0 (by decide) v ht (t' := { t with st := xs }) fun u hO => ⟨{ u with st := v }, rfl, rc_of_sl hv, ha, hO.ba, hO.be, hO.lg, hO.lf, hO.lfa, hO.pd, hO.pda, hO.wt, hO.dn⟩
end
end Go.Proofs.YtddoljfkbkbfjaaGreat.T
