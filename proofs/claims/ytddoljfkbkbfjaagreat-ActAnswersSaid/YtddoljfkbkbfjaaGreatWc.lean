/- What a step leaves as it was, and how it leaves a heap right: plain facts. What a step of a thread comes to, and how it leaves a heap right: plain facts. -/
import Derived.Test.YtddoljfkbkbfjaaGreatUj
namespace Go.Proofs.YtddoljfkbkbfjaaGreat.T
open G
open Go.Joins Go.ChangeShapes Go.WideShapes Go.ChangeAt Go.RowKit Go.Deep Go.Shelf Go.Maps
set_option linter.unusedVariables false
set_option linter.unusedSimpArgs false

abbrev bufok (x y a : Int) : Prop := (x = 0 ∧ y = 0) ∨ (0 ≤ x ∧ x ≤ y ∧ y ≤ a)
theorem fill_wf {m : Me} (hw : m.wf) (a n : Int) : (m.fillm a n).wf := by
  unfold Me.fillm
  split
  · exact put_wf (by omega) hw
  · exact hw
theorem rtm_wf {m : Me} (hw : m.wf) (s x y : Int) : (m.rtm s x y).wf := by
  unfold Me.rtm
  split
  · exact fill_wf hw _ _
  · exact hw
theorem mkr_ok (m : Me) (s a l x y t k mp size : Int) (hwf : m.wf) (hmp : 0 ≤ mp) (hh : rte t k mp = 0) (hs : rgt s a l) (hb : bufok x y a) :
    (mkr m s a l x y t k mp size).m.wf ∧ rgt s (mkr m s a l x y t k mp size).a l ∧ a ≤ (mkr m s a l x y t k mp size).a ∧ bufok (mkr m s a l x y t k mp size).x (mkr m s a l x y t k mp size).y (mkr m s a l x y t k mp size).a ∧ U64 (mkr m s a l x y t k mp size).p := by
  have hw := wdn_small hmp hh
  have hs' := hs
  obtain ⟨s1, s2, s3, s4⟩ := hs
  unfold mkr
  split
  · exact ⟨put_wf hmp hwf, hs', Int.le_refl _, by show bufok (x + wdn t k) y a; unfold bufok; omega, adr_u64 s1 (by omega) (by omega)⟩
  · split
    · split
      · exact ⟨put_wf hmp hwf, ⟨s1, by show 0 ≤ a + wdn t k; omega, by show a + wdn t k ≤ l; omega, s4⟩, by show a ≤ a + wdn t k; omega, by show bufok x y (a + wdn t k); unfold bufok; omega, adr_u64 s1 s2 (by omega)⟩
      · exact ⟨hwf, hs', Int.le_refl _, hb, u64_0⟩
    · split
      · rename_i q1 q2 q3
        have e := msa_is s a l size hs'
        have e2 := msk_le s a l size (wdn t k) hs' hw.1 (by omega)
        refine ⟨put_wf hmp (rtm_wf hwf _ _ _), ⟨s1, ?_, ?_, s4⟩, ?_, ?_, adr_u64 s1 s2 (by omega)⟩
        · show 0 ≤ msa s a l size
          omega
        · show msa s a l size ≤ l
          omega
        · show a ≤ msa s a l size
          omega
        · show bufok (a + wdn t k) (msa s a l size) (msa s a l size)
          unfold bufok
          have := e2.2.1 q3
          omega
      · exact ⟨rtm_wf hwf _ _ _, hs', Int.le_refl _, .inl ⟨rfl, rfl⟩, u64_0⟩
theorem nv_u64 {h : Hp} {t : Th} {o : Op} (hst : ∀ x ∈ t.st, U64 x) (hv : U64 o.v) : U64 (nv h t o) := by
  unfold nv
  split
  · exact addw_u _ _
  · split
    · exact mulw_u _ _
    · split
      · exact gtv_u64 hst _
      · exact hv
theorem pus_u64 {xs : List Int} {a : Int} (h : ∀ x ∈ xs, U64 x) (ha : U64 a) : (∀ x ∈ K.pus xs a, U64 x) ∧ (K.pus xs a).length ≤ xs.length + 1 := by
  unfold K.pus
  split
  · refine ⟨fun x hx => ?_, by simp⟩
    rcases List.mem_append.1 hx with q | q
    · exact h x q
    · simp only [List.mem_singleton] at q
      subst q
      exact ha
  · exact ⟨h, by omega⟩
theorem pos_u64 {xs : List Int} (h : ∀ x ∈ xs, U64 x) : (∀ x ∈ K.pos xs, U64 x) ∧ (K.pos xs).length ≤ xs.length + 1 := by
  unfold K.pos
  exact ⟨fun x hx => h x (List.mem_of_mem_take hx), by rw [List.length_take]; omega⟩
/-- What a deed leaves as it was. -/
structure Dd (h h1 : Hp) (j : Nat) (t t1 : Th) (o : Op) (x : Int) : Prop where
  th : h1.th = h.th.set j t1
  dn : t1.dn = t.dn
  lf : t1.lf = t.lf
  lg : t1.lg = t.lg
  wt : t1.wt = t.wt
  od : h1.od = h.od
  pd : t1.pd = t.pd ∨ (t1.pd = [(K.gtv t.st o.h, o.i)] ∧ 0 ≤ o.h ∧ o.h < t.st.length ∧ h.ph = 1)
  ent : h.ph = 1 → isW o = true → x = 0 → t1.pd = [(K.gtv t.st o.h, o.i)] ∧ 0 ≤ o.h ∧ o.h < t.st.length
  no : x ≠ 0 → t1.pd = t.pd
  fs : h1.fs = h.fs
  fl : h1.fl = h.fl
  ts : h1.ts = h.ts
  ta : h1.ta = h.ta
  tl : h1.tl = h.tl
  sz : h1.sz = h.sz
  lo : h1.lg = h.lg
  ph : h1.ph = h.ph
  sc : h1.sc = h.sc
  fp : h1.fp = h.fp
  bk : h1.bk = h.bk
  n : h1.m.n = h.m.n
  wf : h1.m.wf
  rg : rgt h1.fs h1.fa h1.fl
  le : h.fa ≤ h1.fa
  bf : bufok t1.ba t1.be h1.fa
  st : ∀ x ∈ t1.st, U64 x
  stl : t1.st.length ≤ t.st.length + 1
  same : isW o = false → o.kd ≠ 1 → h1.m = h.m ∧ h1.fa = h.fa
section
variable {h : Hp} {j : Nat} {t : Th} {o : Op}
theorem set_same (ht : h.th[j]? = some t) : h.th = h.th.set j t := by
  apply List.ext_getElem?
  intro k
  by_cases e : j = k
  · subst e
    rw [List.getElem?_set_self (by
      rcases Nat.lt_or_ge j h.th.length with q | q
      · exact q
      · rw [List.getElem?_eq_none q] at ht; cases ht)]
    exact ht
  · rw [List.getElem?_set_ne e]
theorem dd_refl (k : Dk h j t o) {x : Int} (hx : isW o = true → x ≠ 0) : Dd h h j t t o x :=
  ⟨set_same k.ht, rfl, rfl, rfl, rfl, rfl, .inl rfl, fun _ q e => absurd e (hx q), fun _ => rfl, rfl, rfl, rfl, rfl, rfl, rfl, rfl, rfl, rfl, rfl, rfl, rfl, k.wf, k.fr, Int.le_refl _, k.bf, k.st, by omega, fun _ _ => ⟨rfl, rfl⟩⟩
theorem dd_st (k : Dk h j t o) {x : Int} {xs : List Int} (h1 : (∀ x ∈ xs, U64 x) ∧ xs.length ≤ t.st.length + 1) (hx : isW o = true → x ≠ 0) : Dd h (stH h j t xs) j t { t with st := xs } o x :=
  ⟨rfl, rfl, rfl, rfl, rfl, rfl, .inl rfl, fun _ q e => absurd e (hx q), fun _ => rfl, rfl, rfl, rfl, rfl, rfl, rfl, rfl, rfl, rfl, rfl, rfl, rfl, k.wf, k.fr, Int.le_refl _, k.bf, h1.1, h1.2, fun _ _ => ⟨rfl, rfl⟩⟩
theorem fe_in (hf : fe h.m t.st o = 0) : 0 ≤ o.h ∧ o.h < t.st.length := by
  unfold fe at hf
  split at hf
  · rename_i q
    unfold K.rle at q
    split at q
    · rename_i q2
      unfold K.gte at q2
      split at q2
      · rename_i q3
        exact q3
      · cases q2
    · cases q
  · rename_i q
    exact absurd hf q
theorem dd_wr (k : Dk h j t o) (hf : fe h.m t.st o = 0) (hw : isW o = true) : Dd h (wrH h j t (K.gtv t.st o.h) o.i (nv h t o)) j t { t with pd := if h.ph = 1 then [(K.gtv t.st o.h, o.i)] else t.pd } o 0 := by
  have hin := fe_in hf
  refine ⟨rfl, rfl, rfl, rfl, rfl, rfl, ?_, fun p _ _ => ⟨if_pos p, hin⟩, fun q => absurd rfl q, rfl, rfl, rfl, rfl, rfl, rfl, rfl, rfl, rfl, rfl, rfl, set_n _ _ _ _, set_wf k.wf (nv_u64 k.st k.v), k.fr, Int.le_refl _, k.bf, k.st, by show t.st.length ≤ _; omega, fun q => by rw [hw] at q; cases q⟩
  by_cases p : h.ph = 1
  · exact .inr ⟨if_pos p, hin.1, hin.2, p⟩
  · exact .inl (if_neg p)
theorem dd_al (k : Dk h j t o) (hk : o.kd = 1) (ho : okH o.t o.l o.m = true) {x : Int} {xs : List Int} (h1 : (∀ x ∈ xs, U64 x) ∧ xs.length ≤ t.st.length + 1) :
    Dd h { alH h j t (mkr h.m h.fs h.fa h.fl t.ba t.be o.t o.l o.m h.sz) with th := h.th.set j { t with ba := (mkr h.m h.fs h.fa h.fl t.ba t.be o.t o.l o.m h.sz).x, be := (mkr h.m h.fs h.fa h.fl t.ba t.be o.t o.l o.m h.sz).y, st := xs } } j t { t with ba := (mkr h.m h.fs h.fa h.fl t.ba t.be o.t o.l o.m h.sz).x, be := (mkr h.m h.fs h.fa h.fl t.ba t.be o.t o.l o.m h.sz).y, st := xs } o x := by
  have hW : isW o = false := by unfold isW; rw [hk]; rfl
  have hr : rte o.t o.l o.m = 0 := by
    unfold okH at ho
    rw [Bool.and_eq_true] at ho
    exact of_decide_eq_true ho.1
  obtain ⟨m1, m2, m3, m4, m5⟩ := mkr_ok h.m h.fs h.fa h.fl t.ba t.be o.t o.l o.m h.sz k.wf k.m.1 hr k.fr k.bf
  exact ⟨rfl, rfl, rfl, rfl, rfl, rfl, .inl rfl, (fun _ q => by rw [hW] at q; cases q), fun _ => rfl, rfl, rfl, rfl, rfl, rfl, rfl, rfl, rfl, rfl, rfl, rfl, mkr_n _ _ _ _ _ _ _ _ _ _, m1, m2, m3, m4, h1.1, h1.2, fun _ q => absurd hk q⟩
theorem mkr_p (k : Dk h j t o) (ho : okH o.t o.l o.m = true) : U64 (mkr h.m h.fs h.fa h.fl t.ba t.be o.t o.l o.m h.sz).p := by
  have hr : rte o.t o.l o.m = 0 := by
    unfold okH at ho
    rw [Bool.and_eq_true] at ho
    exact of_decide_eq_true ho.1
  exact (mkr_ok h.m h.fs h.fa h.fl t.ba t.be o.t o.l o.m h.sz k.wf k.m.1 hr k.fr k.bf).2.2.2.2
theorem isW_of (q : o.kd = 4 ∨ o.kd = 6 ∨ o.kd = 7 ∨ o.kd = 5) : isW o = true := by unfold isW; exact decide_eq_true (by omega)
theorem isW_no (q : o.kd < 4 ∨ 7 < o.kd) : isW o = false := by unfold isW; exact decide_eq_false (by omega)
theorem deed_dd (k : Dk h j t o) : ∃ t1, Dd h (deed h j t o).2.1 j t t1 o (deed h j t o).1 := by
  have no : (o.kd < 4 ∨ 7 < o.kd) → ∀ {x : Int}, isW o = true → x ≠ 0 := fun q _ e => by rw [isW_no q] at e; cases e
  generalize hx : deed h j t o = r
  unfold deed at hx
  split at hx
  · rename_i q
    split at hx
    · rename_i ho
      split at hx
      · split at hx
        · subst hx
          exact ⟨_, dd_al k q ho (pus_u64 k.st (mkr_p k ho))⟩
        · subst hx
          exact ⟨_, dd_al k q ho (xs := t.st) ⟨k.st, by omega⟩⟩
      · subst hx
        exact ⟨t, dd_refl k (no (by omega))⟩
    · subst hx
      exact ⟨t, dd_refl k (no (by omega))⟩
  · split at hx
    · rename_i q
      split at hx
      · split at hx
        · subst hx
          exact ⟨t, dd_refl k (no (by omega))⟩
        · subst hx
          exact ⟨t, dd_refl k (no (by omega))⟩
      · subst hx
        exact ⟨t, dd_refl k (no (by omega))⟩
    · split at hx
      · rename_i q
        split at hx
        · rename_i hf
          split at hx
          · subst hx
            exact ⟨t, dd_refl k (fun _ => by show (8 : Int) ≠ 0; omega)⟩
          · subst hx
            exact ⟨_, dd_wr k hf (isW_of (by omega))⟩
        · rename_i hf
          subst hx
          exact ⟨t, dd_refl k (fun _ => hf)⟩
      · split at hx
        · rename_i q
          split at hx
          · split at hx
            · subst hx
              exact ⟨_, dd_st k (pus_u64 k.st (getv_u64 k.wf _ _)) (no (by omega))⟩
            · subst hx
              exact ⟨t, dd_refl k (no (by omega))⟩
          · subst hx
            exact ⟨t, dd_refl k (no (by omega))⟩
        · split at hx
          · rename_i q
            split at hx
            · rename_i hf
              split at hx
              · split at hx
                · subst hx
                  exact ⟨_, dd_wr k hf (isW_of (by omega))⟩
                · rename_i hg
                  subst hx
                  exact ⟨t, dd_refl k (fun _ => hg)⟩
              · subst hx
                exact ⟨t, dd_refl k (fun _ => by show (8 : Int) ≠ 0; omega)⟩
            · rename_i hf
              subst hx
              exact ⟨t, dd_refl k (fun _ => hf)⟩
          · split at hx
            · rename_i q
              split at hx
              · split at hx
                · subst hx
                  exact ⟨t, dd_refl k (no (by omega))⟩
                · subst hx
                  exact ⟨t, dd_refl k (no (by omega))⟩
              · subst hx
                exact ⟨t, dd_refl k (no (by omega))⟩
            · split at hx
              · rename_i q
                split at hx
                · subst hx
                  exact ⟨_, dd_st k (pus_u64 k.st (gtv_u64 k.st _)) (no (by omega))⟩
                · subst hx
                  exact ⟨t, dd_refl k (no (by omega))⟩
              · split at hx
                · rename_i q
                  subst hx
                  exact ⟨_, dd_st k (pos_u64 k.st) (no (by omega))⟩
                · split at hx
                  · rename_i q
                    subst hx
                    exact ⟨t, dd_refl k (no (by omega))⟩
                  · subst hx
                    exact ⟨t, dd_refl k (fun _ => by show (1 : Int) ≠ 0; omega)⟩
end
end Go.Proofs.YtddoljfkbkbfjaaGreat.T

namespace Go.Proofs.YtddoljfkbkbfjaaGreat.T
open G
open Go.Joins Go.ChangeShapes Go.WideShapes Go.ChangeAt Go.RowKit Go.Deep Go.Shelf Go.Maps
set_option linter.unusedVariables false
set_option linter.unusedSimpArgs false

theorem dk_of {h : Hp} {j : Nat} {t : Th} {o : Op} (hF : HpF h) (hG : HpG h) (ht : h.th[j]? = some t) (hlf : t.lf[0]? = some o) : Dk h j t o := by
  have htm := List.mem_of_getElem? ht
  have hok := hG.ok t htm
  have hoo := hok.lf o (List.mem_of_getElem? hlf)
  exact ⟨ht, hG.wf, hok.st, by have := (hF.th t htm).st; omega, hoo.2.2.2.2.1, hoo.2.2.2.2.2.2.2, hG.fr, hG.fl, hG.bf t htm⟩
/-- What a step leaves as it was. -/
structure Df (h k : Hp) (j : Nat) (t t' : Th) : Prop where
  ht : h.th[j]? = some t
  th : k.th = h.th.set j t'
  fs : k.fs = h.fs
  fl : k.fl = h.fl
  ts : k.ts = h.ts
  ta : k.ta = h.ta
  tl : k.tl = h.tl
  sz : k.sz = h.sz
  lo : k.lg = h.lg
  ph : k.ph = h.ph
  sc : k.sc = h.sc
  fp : k.fp = h.fp
  bk : k.bk = h.bk
  n : k.m.n = h.m.n
  wf : k.m.wf
  rg : rgt k.fs k.fa k.fl
  le : h.fa ≤ k.fa
  bf : bufok t'.ba t'.be k.fa
  pl : t'.pd.length ≤ 1
  ok : ThOk t'
section
variable {h k : Hp} {j : Nat} {t t' : Th}
theorem Df.lt (d : Df h k j t t') : j < h.th.length := by
  have := d.ht
  rcases Nat.lt_or_ge j h.th.length with q | q
  · exact q
  · rw [List.getElem?_eq_none q] at this; cases this
theorem Df.len (d : Df h k j t t') : k.th.length = h.th.length := by rw [d.th, List.length_set]
theorem Df.at_ (d : Df h k j t t') : k.th[j]? = some t' := by rw [d.th, List.getElem?_set_self d.lt]
theorem Df.oth (d : Df h k j t t') {i : Nat} (hi : i ≠ j) : k.th[i]? = h.th[i]? := by rw [d.th, List.getElem?_set_ne (fun q => hi q.symm)]
theorem Df.mem (d : Df h k j t t') {x : Th} (hx : x ∈ k.th) : x = t' ∨ x ∈ h.th := by
  rw [d.th] at hx
  exact (List.mem_or_eq_of_mem_set hx).symm
theorem bufok_le {x y a b : Int} (h : bufok x y a) (k : a ≤ b) : bufok x y b := by unfold bufok at *; omega
theorem Df.hpG (d : Df h k j t t') (hG : HpG h) : HpG k :=
  ⟨d.wf, d.rg, by rw [d.fl, d.n]; exact hG.fl, fun x hx => by
    rcases d.mem hx with rfl | q
    · exact d.ok
    · exact hG.ok x q, fun x hx => by
    rcases d.mem hx with rfl | q
    · exact d.bf
    · exact bufok_le (hG.bf x q) d.le, fun x hx => by
    rcases d.mem hx with rfl | q
    · exact d.pl
    · exact hG.pd x q⟩
theorem Df.rgP (d : Df h k j t t') {N : Int} {n0 n1 : Nat} (r : RgP N n0 n1 h) : RgP N n0 n1 k :=
  ⟨r.m, by unfold rgb; exact decide_eq_true d.rg, by rw [d.ts, d.ta, d.tl]; exact r.t, by rw [d.fs, d.ts]; exact r.ne, by rw [d.fl]; exact r.fl, by rw [d.tl]; exact r.tl, by rw [d.sz]; exact r.sz0, by rw [d.sz]; exact r.sz1, by rw [d.lo]; exact r.lg0, by rw [d.lo]; exact r.lg1, by rw [d.len]; exact r.n0, by rw [d.len]; exact r.n1, fun x hx => by
    rcases d.mem hx with rfl | q
    · exact ⟨d.bf, d.pl⟩
    · have := r.th x q
      exact ⟨bufok_le this.1 d.le, this.2⟩, by rw [d.ph]; exact r.ph0, by rw [d.ph]; exact r.ph1, by rw [d.sc]; exact r.sc0, by rw [d.sc, d.ta]; exact r.sc1⟩
end
/-- An entry is told; a thread waits; it is answered. -/
inductive Cases (h k : Hp) (j : Nat) (t t' : Th) : Prop where
  | log (e : Ent) (h1 : t.pd = [e]) (h2 : t' = { t with lg := t.lg ++ [e], pd := [] }) (h3 : k.od = h.od) (h4 : k.m = h.m) (h5 : k.fa = h.fa) : Cases h k j t t'
  | want (o : Op) (t1 : Th) (h1 : t.pd = []) (h2 : t.lf[0]? = some o) (h3 : Dd h (deed h j t o).2.1 j t t1 o 11) (h4 : t' = { t1 with wt := true }) (h5 : k.od = h.od) (h6 : k.m = (deed h j t o).2.1.m) (h7 : k.fa = (deed h j t o).2.1.fa) : Cases h k j t t'
  | ans (o : Op) (t1 : Th) (x : Int) (h1 : t.pd = []) (h2 : t.lf[0]? = some o) (hx : x = (deed h j t o).1) (h3 : Dd h (deed h j t o).2.1 j t t1 o x) (hn : x ≠ 11) (h4 : t' = { t1 with dn := t1.dn ++ [(x, (deed h j t o).2.2)], lf := t1.lf.drop 1 }) (h5 : k.od = h.od ++ [(j : Int)]) (h6 : k.m = (deed h j t o).2.1.m) (h7 : k.fa = (deed h j t o).2.1.fa) : Cases h k j t t'
theorem pend_ok {h : Hp} {t t1 : Th} {o : Op} (hok : ThOk t) (hi : I64 o.i) (h1 : t1.pd = t.pd ∨ (t1.pd = [(K.gtv t.st o.h, o.i)] ∧ 0 ≤ o.h ∧ o.h < t.st.length ∧ h.ph = 1)) (hp : t.pd = []) : (∀ x ∈ t1.pd, OkE x) ∧ t1.pd.length ≤ 1 := by
  rcases h1 with q | ⟨q, -⟩
  · rw [q, hp]
    exact ⟨fun x hx => (by cases hx), by simp⟩
  · rw [q]
    refine ⟨fun x hx => ?_, by simp⟩
    obtain rfl : x = (K.gtv t.st o.h, o.i) := by simpa using hx
    exact ⟨gtv_u64 hok.st _, hi⟩
theorem did_cases {h : Hp} (hF : HpF h) (hG : HpG h) {th : Int} (hc : canB h th = true) : ∃ (j : Nat) (t t' : Th), th = j ∧ h.bk = 0 ∧ canT h t = true ∧ Df h (didH h th) j t t' ∧ Cases h (didH h th) j t t' := by
  obtain ⟨h0, h1, h2, t, ht, hct⟩ := canB_at hc
  obtain ⟨j, rfl⟩ : ∃ j : Nat, th = j := ⟨th.toNat, by omega⟩
  rw [Int.toNat_natCast] at ht
  have hj : j < h.th.length := by omega
  have htm := List.mem_of_getElem? ht
  have hok := hG.ok t htm
  have hpl := hG.pd t htm
  have hbf := hG.bf t htm
  have e0 : didH h (j : Int) = (match t.pd with | e :: _ => logH h j t e | [] => doH h j t (t.lf.headD oz)) := by
    unfold didH
    rw [if_pos hc, Int.toNat_natCast, ht]
    rfl
  cases hp : t.pd with
  | cons e r =>
    have hr0 : r = [] := by
      rw [hp] at hpl
      exact List.eq_nil_of_length_eq_zero (by simpa using hpl)
    subst hr0
    rw [hp] at e0
    simp only at e0
    refine ⟨j, t, { t with lg := t.lg ++ [e], pd := [] }, rfl, h2, hct, ?_, ?_⟩
    · rw [e0]
      refine ⟨ht, rfl, rfl, rfl, rfl, rfl, rfl, rfl, rfl, rfl, rfl, rfl, rfl, rfl, hG.wf, hG.fr, Int.le_refl _, hbf, by simp, ⟨hok.st, hok.ba, hok.be, fun x hx => ?_, hok.lf, fun x hx => (by cases hx)⟩⟩
      rcases List.mem_append.1 hx with q | q
      · exact hok.lg x q
      · obtain rfl : x = e := by simpa using q
        exact hok.pd x (by rw [hp]; simp)
    · rw [e0]
      exact .log e hp rfl rfl rfl rfl
  | nil =>
    rw [hp] at e0
    simp only at e0
    have hlf := canT_lf hct hp
    generalize t.lf.headD oz = o at *
    have hoo := hok.lf o (List.mem_of_getElem? hlf)
    obtain ⟨t1, D⟩ := deed_dd (dk_of hF hG ht hlf)
    obtain ⟨x, hx⟩ : ∃ x, x = (deed h j t o).1 := ⟨_, rfl⟩
    rw [← hx] at D
    have h1j : (deed h j t o).2.1.th[j]? = some t1 := by rw [D.th, List.getElem?_set_self hj]
    have e1 := doH_eq (o := o) h1j
    rw [e1] at e0
    have hpe := pend_ok (h := h) (t1 := t1) hok hoo.2.2.1 D.pd hp
    have hbi : I64 t1.ba ∧ I64 t1.be := by
      have := D.bf
      have := D.rg
      unfold rgt at this
      unfold bufok at *
      unfold I64
      omega
    by_cases q : x = 11
    · rw [if_pos (by rw [← hx]; exact q)] at e0
      refine ⟨j, t, { t1 with wt := true }, rfl, h2, hct, ?_, ?_⟩
      · rw [e0]
        exact ⟨ht, by show (deed h j t o).2.1.th.set j _ = _; rw [D.th, List.set_set], D.fs, D.fl, D.ts, D.ta, D.tl, D.sz, D.lo, D.ph, D.sc, D.fp, D.bk, D.n, D.wf, D.rg, D.le, D.bf, hpe.2, ⟨D.st, hbi.1, hbi.2, by rw [show ({ t1 with wt := true } : Th).lg = t1.lg from rfl, D.lg]; exact hok.lg, by rw [show ({ t1 with wt := true } : Th).lf = t1.lf from rfl, D.lf]; exact hok.lf, hpe.1⟩⟩
      · subst q
        rw [e0]
        exact .want o t1 hp hlf D rfl D.od rfl rfl
    · rw [if_neg (by rw [← hx]; exact q)] at e0
      refine ⟨j, t, { t1 with dn := t1.dn ++ [(x, (deed h j t o).2.2)], lf := t1.lf.drop 1 }, rfl, h2, hct, ?_, ?_⟩
      · rw [e0, ← hx]
        refine ⟨ht, ?_, D.fs, D.fl, D.ts, D.ta, D.tl, D.sz, D.lo, D.ph, D.sc, D.fp, D.bk, D.n, D.wf, D.rg, D.le, D.bf, hpe.2, ⟨D.st, hbi.1, hbi.2, ?_, ?_, hpe.1⟩⟩
        · show (deed h j t o).2.1.th.set j _ = _
          rw [D.th, List.set_set]
        · show ∀ x ∈ t1.lg, OkE x
          rw [D.lg]; exact hok.lg
        · show ∀ x ∈ t1.lf.drop 1, OkO x
          rw [D.lf]
          exact fun y hy => hok.lf y (List.mem_of_mem_drop hy)
      · rw [e0, ← hx]
        exact .ans o t1 x hp hlf hx D q rfl (by show (deed h j t o).2.1.od ++ _ = _; rw [D.od]) rfl rfl
end Go.Proofs.YtddoljfkbkbfjaaGreat.T
