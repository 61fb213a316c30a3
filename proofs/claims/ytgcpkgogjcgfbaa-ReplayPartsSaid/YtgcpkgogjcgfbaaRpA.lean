/- Entries written to twins: plain facts; replay.over, One, Same, the document's Made, To, Same; the example: contracts. -/
import Derived.Test.YtgcpkgogjcgfbaaTwp
import Derived.Test.YtgcpkgogjcgfbaaTw3
import Derived.Test.YtgcpkgogjcgfbaaOb6
import Derived.Test.YtgcpkgogjcgfbaaTw8
import Derived.Test.YtgcpkgogjcgfbaaRf5
namespace Go.Proofs.Ytgcpkgogjcgfbaa
open Go.ChangeShapes Go.WideShapes Go.ChangeAt Go.RowKit
set_option linter.unusedVariables false
set_option linter.unusedSimpArgs false

theorem getv_u64 {m : Me} (hwf : m.wf) (a i : Int) : U64 (m.getv a i) := by
  unfold Me.getv
  split
  · exact hwf.ld _
  · exact u64_0
theorem set_ok {m : Me} (h : m.ok) (a i v : Int) : (m.setm a i v).ok := by
  unfold Me.setm
  split
  · exact Me.ok.st h _ _
  · exact h

/-- What stays of a room. -/
structure Kb (m : Me) (a : Int) (m' : Me) (a' : Int) : Prop where
  n : m'.n = m.n
  ok : m'.ok
  wf : m'.wf
  le : a ≤ a'
  hi : a' ≤ m.n
section
variable {m : Me} {s a l : Int}
theorem Kb.refl (ok : m.ok) (wf : m.wf) (h : a ≤ m.n) : Kb m a m a := ⟨rfl, ok, wf, Int.le_refl _, h⟩
theorem Kb.trans {m1 m2 : Me} {a1 a2 : Int} (h : Kb m a m1 a1) (g : Kb m1 a1 m2 a2) : Kb m a m2 a2 :=
  ⟨g.n.trans h.n, g.ok, g.wf, Int.le_trans h.le g.le, by have := g.hi; rw [h.n] at this; exact this⟩
theorem Kb.rg {m1 : Me} {a1 : Int} (h : Kb m a m1 a1) (rg : rgt s a l) (hl : l = m.n) : rgt s a1 l ∧ l = m1.n := by
  have h1 := h.le
  have h2 := h.hi
  have h3 := h.n
  obtain ⟨r1, r2, r3, r4⟩ := rg
  exact ⟨⟨r1, by omega, by omega, r4⟩, by rw [h3]; exact hl⟩
theorem toa_kb (ok : m.ok) (wf : m.wf) (rg : rgt s a l) (hl : l = m.n) (p : Int) : Kb m a (toa m s a l p).m (toa m s a l p).a := by
  have h := toa_la (A := p) ok wf rg hl
  exact ⟨h.n, h.ok, h.wf, h.le, h.hi⟩
theorem set_kb {m1 : Me} {a1 : Int} (h : Kb m a m1 a1) {v : Int} (hv : U64 v) (A i : Int) : Kb m a (m1.setm A i v) a1 :=
  ⟨(set_n _ _ _ _).trans h.n, set_ok h.ok _ _ _, set_wf h.wf hv, h.le, h.hi⟩

/-! ### one entry -/
structure Rp where
  m : Me
  a : Int
  e : Int
def rep (m : Me) (s a l o f : Int) : Rp :=
  if m.gete o f ≠ 0 then ⟨m, a, m.gete o f⟩
  else if ovb s o = true then ⟨m, a, 0⟩
  else if m.twv o = 0 then ⟨m, a, 0⟩
  else if m.getb o f = true then
    (if (toa m s a l (m.getv o f)).e ≠ 0 then ⟨(toa m s a l (m.getv o f)).m, (toa m s a l (m.getv o f)).a, (toa m s a l (m.getv o f)).e⟩
     else ⟨(toa m s a l (m.getv o f)).m.setm (m.twv o) f (toa m s a l (m.getv o f)).b, (toa m s a l (m.getv o f)).a, (toa m s a l (m.getv o f)).m.gete (m.twv o) f⟩)
  else ⟨m.setm (m.twv o) f (m.getv o f), a, m.gete (m.twv o) f⟩
theorem rep_kb (ok : m.ok) (wf : m.wf) (rg : rgt s a l) (hl : l = m.n) (o f : Int) : Kb m a (rep m s a l o f).m (rep m s a l o f).a := by
  have hr : Kb m a m a := Kb.refl ok wf (by have := rg.2.2.1; omega)
  have K := toa_kb ok wf rg hl (m.getv o f)
  have hv := getv_u64 wf o f
  have hb := toa_u64 ok wf rg hl hv
  unfold rep
  split
  · exact hr
  · split
    · exact hr
    · split
      · exact hr
      · split
        · split
          · exact K
          · exact set_kb K hb _ _
        · exact set_kb hr hv _ _

/-! ### some -/
structure Dn where
  m : Me
  a : Int
  n : Nat
  e : Int
def don (s l : Int) : List (Int × Int) → Me → Int → Dn
  | [], m, a => ⟨m, a, 0, 0⟩
  | x :: L, m, a => if (rep m s a l x.1 x.2).e = 0 then ⟨(don s l L (rep m s a l x.1 x.2).m (rep m s a l x.1 x.2).a).m, (don s l L (rep m s a l x.1 x.2).m (rep m s a l x.1 x.2).a).a, (don s l L (rep m s a l x.1 x.2).m (rep m s a l x.1 x.2).a).n + 1, (don s l L (rep m s a l x.1 x.2).m (rep m s a l x.1 x.2).a).e⟩
    else ⟨m, a, 0, (rep m s a l x.1 x.2).e⟩
theorem don_kb : ∀ (L : List (Int × Int)) (m : Me) (a : Int), m.ok → m.wf → rgt s a l → l = m.n → Kb m a (don s l L m a).m (don s l L m a).a
  | [], m, a, ok, wf, rg, hl => Kb.refl ok wf (by have := rg.2.2.1; omega)
  | x :: L, m, a, ok, wf, rg, hl => by
    have k := rep_kb ok wf rg hl x.1 x.2
    obtain ⟨rg1, hl1⟩ := k.rg rg hl
    have k2 := don_kb L _ _ k.ok k.wf rg1 hl1
    unfold don
    split
    · exact k.trans k2
    · exact Kb.refl ok wf (by have := rg.2.2.1; omega)
theorem don_yes {x : Int × Int} {L : List (Int × Int)} {m : Me} {a : Int} (h : (rep m s a l x.1 x.2).e = 0) : don s l (x :: L) m a = ⟨(don s l L (rep m s a l x.1 x.2).m (rep m s a l x.1 x.2).a).m, (don s l L (rep m s a l x.1 x.2).m (rep m s a l x.1 x.2).a).a, (don s l L (rep m s a l x.1 x.2).m (rep m s a l x.1 x.2).a).n + 1, (don s l L (rep m s a l x.1 x.2).m (rep m s a l x.1 x.2).a).e⟩ := by
  conv => lhs; unfold don
  rw [if_pos h]
theorem don_no {x : Int × Int} {L : List (Int × Int)} {m : Me} {a : Int} (h : (rep m s a l x.1 x.2).e ≠ 0) : don s l (x :: L) m a = ⟨m, a, 0, (rep m s a l x.1 x.2).e⟩ := by
  conv => lhs; unfold don
  rw [if_neg h]
theorem don_len : ∀ (L : List (Int × Int)) (m : Me) (a : Int), (don s l L m a).e = 0 → (don s l L m a).n = L.length
  | [], m, a, _ => rfl
  | x :: L, m, a, h => by
    by_cases h1 : (rep m s a l x.1 x.2).e = 0
    · rw [don_yes h1] at h ⊢
      simp only [List.length_cons]
      rw [don_len L _ _ h]
    · rw [don_no h1] at h
      exact absurd h h1
theorem don_lt : ∀ (L : List (Int × Int)) (m : Me) (a : Int), (don s l L m a).e ≠ 0 → (don s l L m a).n < L.length
  | [], m, a, h => absurd rfl h
  | x :: L, m, a, h => by
    by_cases h1 : (rep m s a l x.1 x.2).e = 0
    · rw [don_yes h1] at h ⊢
      have := don_lt L _ _ h
      simp only [List.length_cons]
      omega
    · rw [don_no h1]
      simp
theorem don_le (L : List (Int × Int)) (m : Me) (a : Int) : (don s l L m a).n ≤ L.length := by
  by_cases h : (don s l L m a).e = 0
  · rw [don_len L m a h]; exact Nat.le_refl _
  · exact Nat.le_of_lt (don_lt L m a h)
theorem don_app_ok : ∀ (L R : List (Int × Int)) (m : Me) (a : Int), (don s l L m a).e = 0 →
    don s l (L ++ R) m a = ⟨(don s l R (don s l L m a).m (don s l L m a).a).m, (don s l R (don s l L m a).m (don s l L m a).a).a, L.length + (don s l R (don s l L m a).m (don s l L m a).a).n, (don s l R (don s l L m a).m (don s l L m a).a).e⟩
  | [], R, m, a, h => by simp [don]
  | x :: L, R, m, a, h => by
    by_cases h1 : (rep m s a l x.1 x.2).e = 0
    · rw [don_yes h1] at h ⊢
      rw [List.cons_append, don_yes h1, don_app_ok L R _ _ h]
      simp only [List.length_cons]
      congr 1
      omega
    · rw [don_no h1] at h
      exact absurd h h1
theorem don_app_no : ∀ (L R : List (Int × Int)) (m : Me) (a : Int), (don s l L m a).e ≠ 0 → don s l (L ++ R) m a = don s l L m a
  | [], R, m, a, h => absurd rfl h
  | x :: L, R, m, a, h => by
    by_cases h1 : (rep m s a l x.1 x.2).e = 0
    · rw [don_yes h1] at h ⊢
      rw [List.cons_append, don_yes h1, don_app_no L R _ _ h]
    · rw [List.cons_append, don_no h1, don_no h1]

/-! ### logs -/
structure Lg where
  m : Me
  a : Int
  L : List (List (Int × Int))
  e : Int
def lgs (s l : Int) : List (List (Int × Int)) → Me → Int → Lg
  | [], m, a => ⟨m, a, [], 0⟩
  | r :: L, m, a => if (don s l r m a).e = 0 then ⟨(lgs s l L (don s l r m a).m (don s l r m a).a).m, (lgs s l L (don s l r m a).m (don s l r m a).a).a, [] :: (lgs s l L (don s l r m a).m (don s l r m a).a).L, (lgs s l L (don s l r m a).m (don s l r m a).a).e⟩
    else ⟨(don s l r m a).m, (don s l r m a).a, r.drop (don s l r m a).n :: L, (don s l r m a).e⟩
theorem lgs_yes {r : List (Int × Int)} {L : List (List (Int × Int))} {m : Me} {a : Int} (h : (don s l r m a).e = 0) : lgs s l (r :: L) m a = ⟨(lgs s l L (don s l r m a).m (don s l r m a).a).m, (lgs s l L (don s l r m a).m (don s l r m a).a).a, [] :: (lgs s l L (don s l r m a).m (don s l r m a).a).L, (lgs s l L (don s l r m a).m (don s l r m a).a).e⟩ := by
  conv => lhs; unfold lgs
  rw [if_pos h]
theorem lgs_no {r : List (Int × Int)} {L : List (List (Int × Int))} {m : Me} {a : Int} (h : (don s l r m a).e ≠ 0) : lgs s l (r :: L) m a = ⟨(don s l r m a).m, (don s l r m a).a, r.drop (don s l r m a).n :: L, (don s l r m a).e⟩ := by
  conv => lhs; unfold lgs
  rw [if_neg h]
theorem lgs_nil {L : List (List (Int × Int))} {m : Me} {a : Int} : lgs s l ([] :: L) m a = ⟨(lgs s l L m a).m, (lgs s l L m a).a, [] :: (lgs s l L m a).L, (lgs s l L m a).e⟩ := lgs_yes (r := []) rfl
theorem lgs_kb : ∀ (L : List (List (Int × Int))) (m : Me) (a : Int), m.ok → m.wf → rgt s a l → l = m.n → Kb m a (lgs s l L m a).m (lgs s l L m a).a
  | [], m, a, ok, wf, rg, hl => Kb.refl ok wf (by have := rg.2.2.1; omega)
  | r :: L, m, a, ok, wf, rg, hl => by
    have k := don_kb r m a ok wf rg hl
    obtain ⟨rg1, hl1⟩ := k.rg rg hl
    have k2 := lgs_kb L _ _ k.ok k.wf rg1 hl1
    unfold lgs
    split
    · exact k.trans k2
    · exact k
theorem lgs_len : ∀ (L : List (List (Int × Int))) (m : Me) (a : Int), (lgs s l L m a).L.length = L.length
  | [], m, a => rfl
  | r :: L, m, a => by
    unfold lgs
    split
    · simp [lgs_len L]
    · simp
/-- How many entries. -/
def tot (L : List (List (Int × Int))) : Nat := (L.map List.length).sum
theorem lgs_tot0 : ∀ (L : List (List (Int × Int))) (m : Me) (a : Int), (lgs s l L m a).e = 0 → tot (lgs s l L m a).L = 0
  | [], m, a, _ => rfl
  | r :: L, m, a, h => by
    by_cases h1 : (don s l r m a).e = 0
    · rw [lgs_yes h1] at h ⊢
      have := lgs_tot0 L _ _ h
      simpa [tot] using this
    · rw [lgs_no h1] at h
      exact absurd h h1
theorem lgs_tot1 : ∀ (L : List (List (Int × Int))) (m : Me) (a : Int), (lgs s l L m a).e ≠ 0 → 0 < tot (lgs s l L m a).L
  | [], m, a, h => absurd rfl h
  | r :: L, m, a, h => by
    by_cases h1 : (don s l r m a).e = 0
    · rw [lgs_yes h1] at h ⊢
      have := lgs_tot1 L _ _ h
      simpa [tot] using this
    · rw [lgs_no h1]
      have := don_lt r m a h1
      simp [tot]
      omega
theorem lgs_tot : ∀ (L : List (List (Int × Int))) (m : Me) (a : Int), tot (lgs s l L m a).L ≤ tot L
  | [], m, a => Nat.le_refl _
  | r :: L, m, a => by
    by_cases h1 : (don s l r m a).e = 0
    · rw [lgs_yes h1]
      have := lgs_tot L (don s l r m a).m (don s l r m a).a
      simp [tot] at this ⊢
      omega
    · rw [lgs_no h1]
      simp [tot]
/-- The first log with an entry. -/
def fst_ (L : List (List (Int × Int))) : Nat := L.findIdx (fun r => !r.isEmpty)
theorem fst_nil (L : List (List (Int × Int))) : fst_ ([] :: L) = fst_ L + 1 := by simp [fst_, List.findIdx_cons]
theorem fst_cons {r : List (Int × Int)} (h : r ≠ []) (L : List (List (Int × Int))) : fst_ (r :: L) = 0 := by
  cases r
  · exact absurd rfl h
  · simp [fst_, List.findIdx_cons]
theorem lgs_end : ∀ (L : List (List (Int × Int))) (m : Me) (a : Int), fst_ L = L.length → lgs s l L m a = ⟨m, a, L, 0⟩
  | [], m, a, _ => rfl
  | r :: L, m, a, h => by
    by_cases hr : r = []
    · subst hr
      rw [fst_nil] at h
      rw [lgs_nil, lgs_end L m a (by simpa using h)]
    · rw [fst_cons hr] at h
      simp at h
theorem lgs_ok : ∀ (L : List (List (Int × Int))) (m : Me) (a : Int), fst_ L < L.length → (don s l (L.getD (fst_ L) []) m a).e = 0 →
    lgs s l L m a = lgs s l (L.set (fst_ L) []) (don s l (L.getD (fst_ L) []) m a).m (don s l (L.getD (fst_ L) []) m a).a
  | [], m, a, h, _ => absurd h (by simp)
  | r :: L, m, a, h, he => by
    by_cases hr : r = []
    · subst hr
      rw [fst_nil] at h he ⊢
      simp only [List.getD_cons_succ, List.length_cons, Nat.add_lt_add_iff_right] at h he ⊢
      rw [lgs_nil, lgs_ok L m a h he, List.set_cons_succ, lgs_nil]
    · rw [fst_cons hr] at h he ⊢
      simp only [List.getD_cons_zero, List.set_cons_zero] at he ⊢
      rw [lgs_yes he, lgs_nil]
theorem lgs_er : ∀ (L : List (List (Int × Int))) (m : Me) (a : Int), fst_ L < L.length → (don s l (L.getD (fst_ L) []) m a).e ≠ 0 →
    lgs s l L m a = ⟨(don s l (L.getD (fst_ L) []) m a).m, (don s l (L.getD (fst_ L) []) m a).a, L.set (fst_ L) ((L.getD (fst_ L) []).drop (don s l (L.getD (fst_ L) []) m a).n), (don s l (L.getD (fst_ L) []) m a).e⟩
  | [], m, a, h, _ => absurd h (by simp)
  | r :: L, m, a, h, he => by
    by_cases hr : r = []
    · subst hr
      rw [fst_nil] at h he ⊢
      simp only [List.getD_cons_succ, List.length_cons, Nat.add_lt_add_iff_right] at h he ⊢
      rw [lgs_nil, lgs_er L m a h he, List.set_cons_succ]
    · rw [fst_cons hr] at h he ⊢
      simp only [List.getD_cons_zero, List.set_cons_zero] at he ⊢
      rw [lgs_no he]
end
end Go.Proofs.Ytgcpkgogjcgfbaa
namespace Go.Proofs.Ytgcpkgogjcgfbaa
open Go.ChangeShapes Go.WideShapes Go.ChangeAt Go.RowKit
set_option linter.unusedVariables false
set_option linter.unusedSimpArgs false

section
variable {m : Me} {s a l A : Int}
theorem Cp.tat (h : Cp m s a l A) {j : Int} (h0 : 0 ≤ j) (h1 : j < m.wn A) : adr s a + j = adr s (a + j) ∧ whs (adr s a + j) = s ∧ whp (adr s a + j) = a + j ∧ m.there (adr s a + j) := by
  obtain ⟨p1, p2, p3, e1, e2, e3⟩ := h.pl
  have h16 := h.ok
  obtain ⟨k1, k2, k3, k4⟩ := h16
  have e : adr s a + j = adr s (a + j) := by unfold adr; omega
  obtain ⟨f1, f2, f3⟩ := adr_is (s := s) (a := a + j) h.rg.1 (by omega) (by omega)
  rw [e]
  exact ⟨rfl, f1, f2, f3, by rw [f2]; omega⟩
theorem Cp.aat (h : Cp m s a l A) {j : Int} (h0 : 0 ≤ j) (h1 : j < m.wn A) : whs (A + j) = whs A ∧ whp (A + j) = whp A + j ∧ m.there (A + j) ∧ 0 ≤ A + j ∧ A + j ≤ 18446744073709551615 :=
  inn_off h.ok.2.1 (kne_inn h.kn).1 h0 (by unfold Me.wn at h1; omega)
/-- The words that were moved. -/
theorem Cp.mvld (h : Cp m s a l A) {j : Int} (h0 : 0 ≤ j) (h1 : j < m.wn A) : (m.mv A (adr s a) (m.wn A)).ld (adr s a + j) = m.ld (A + j) := by
  obtain ⟨p1, p2, p3, e1, e2, e3⟩ := h.pl
  obtain ⟨e, f1, f2, ht⟩ := h.tat h0 h1
  obtain ⟨g1, g2, g3, g4, g5⟩ := h.aat h0 h1
  have hl := Me.len_sp h.ok s
  have hla := Me.len_sp h.ok (whs A)
  have hpA := whp_nn A
  have hin := (kne_inn h.kn).1.2
  have hw := h.wn
  have hws := h.ws
  have ht2 := ht.2
  rw [f2] at ht2
  rw [show (m.mv A (adr s a) (m.wn A)).ld (adr s a + j) = _ from if_pos ((there_n h.mvn _).2 ht), show m.ld (A + j) = _ from if_pos g3, h.mv, f1, f2, Me.sp_put m h.rg.1, g1, g2]
  unfold List.getD
  rw [getElem?_splice _ _ _ _ (by rw [h.ws, hl]; omega), h.ws, if_neg (by omega), if_pos (by omega)]
  unfold Me.ws
  rw [List.getElem?_take_of_lt (by omega), List.getElem?_drop, show (whp A).toNat + ((a + j).toNat - a.toNat) = (whp A + j).toNat from by omega]
theorem Cp.tne (h : Cp m s a l A) {j : Int} (h0 : 0 ≤ j) (h1 : j < m.wn A) : A + 1 ≠ adr s a + j := fun e => by
  have h2 := (h.tat h0 h1).2.1
  rw [← e, h.off.1] at h2
  exact ovb_no (kne_whb h.kn) h.ov h2
theorem Cp.ldn (h : Cp m s a l A) {j : Int} (h0 : 0 ≤ j) (h1 : j < m.wn A) : (m.cpm s a A).ld (adr s a + j) = m.ld (A + j) := by
  rw [h.is, st_other (h.tne h0 h1), h.mvld h0 h1]
/-- The twin's word of a twin is 0 already. -/
theorem Cp.st0 (h : Cp m s a l A) : (m.mv A (adr s a) (m.wn A)).st (adr s a + 1) 0 = m.mv A (adr s a) (m.wn A) := by
  have hw := h.wn
  refine st_same h.mvk ((there_n h.mvn _).2 (h.tat (by omega) (by omega)).2.2.2) ?_
  rw [h.mvld (by omega) (by omega), ← show m.twv A = m.ld (A + 1) from if_pos h.kn]
  exact h.tw
theorem Cp.tw2 (h : Cp m s a l A) : 0 ≤ adr s a + 1 ∧ adr s a + 1 ≤ 18446744073709551615 ∧ m.there (adr s a + 1) := by
  have hw := h.wn
  obtain ⟨p1, p2, p3, e1, e2, e3⟩ := h.pl
  refine ⟨?_, ?_, (h.tat (j := 1) (by omega) (by omega)).2.2.2⟩
  · unfold adr; rcases h.rg.1 with q | q <;> rw [q] <;> omega
  · unfold adr; rcases h.rg.1 with q | q <;> rw [q] <;> omega

/-- An object and its twin. -/
structure Nw (K : Me) (A T : Int) : Prop where
  tw : K.twv A = T
  kn : K.kne A = 0
  at_ : K.ate T = 0
  t : K.att T = K.att A
  l : K.atl T = K.atl A
  m : K.atm T = K.atm A
  f : ∀ i : Int, 0 ≤ i → i < K.atl A → K.getv T i = K.getv A i
theorem Cp.nw (h : Cp m s a l A) : Nw (m.cpm s a A) A (adr s a) := by
  have hw := h.wn
  obtain ⟨p1, p2, p3, e1, e2, e3⟩ := h.pl
  obtain ⟨w1, w2, w3, w4, w5⟩ := kne_wdn h.kn
  have hA : (m.cpm s a A).ld A = m.ld A := h.ld h.nt.1 (by omega)
  have hT : (m.cpm s a A).ld (adr s a) = m.ld A := by
    have := h.ldn (j := 0) (Int.le_refl _) (by omega)
    rwa [Int.add_zero, Int.add_zero] at this
  have hk := kne_0.1 h.kn
  have hat := at_of hk.1
  have hkA := kne_0.1 h.kn'
  have hatA := at_of hkA.1
  have htT : (m.cpm s a A).there (adr s a) := (there_n h.n _).2 (by
    have := (h.tat (j := 0) (Int.le_refl _) (by omega)).2.2.2
    rwa [Int.add_zero] at this)
  have hok : (m.cpm s a A).atok (adr s a) := by
    refine ⟨htT, ?_, ?_, ?_⟩
    · rw [hT]; exact hk.1.2.1
    · exact e3
    · rw [e2, hT, h.n, ← hat.1, ← hat.2.1, w3]; exact p2
  have hatT := at_of hok
  have t1 : (m.cpm s a A).att (adr s a) = (m.cpm s a A).att A := by rw [hatT.1, hatA.1, hT, hA]
  have t2 : (m.cpm s a A).atl (adr s a) = (m.cpm s a A).atl A := by rw [hatT.2.1, hatA.2.1, hT, hA]
  have t3 : (m.cpm s a A).atm (adr s a) = (m.cpm s a A).atm A := by rw [hatT.2.2, hatA.2.2, hT, hA]
  have hkT : (m.cpm s a A).kne (adr s a) = 0 := kne_0.2 ⟨hok, by rw [t1]; exact hkA.2⟩
  have hlA : (m.cpm s a A).atl A = m.atl A := by rw [hatA.2.1, hat.2.1, hA]
  refine ⟨h.tw', h.kn', ate_0.2 hok, t1, t2, t3, fun i i0 i1 => ?_⟩
  have hfT : (m.cpm s a A).fok (adr s a) i := ⟨hkT, decide_eq_true ⟨i0, by rw [t2]; exact i1⟩⟩
  have hfA : (m.cpm s a A).fok A i := ⟨h.kn', decide_eq_true ⟨i0, i1⟩⟩
  have hwn : m.wn A = m.atl A + 2 := rfl
  rw [show (m.cpm s a A).getv (adr s a) i = _ from if_pos hfT, show (m.cpm s a A).getv A i = _ from if_pos hfA]
  rw [show adr s a + 2 + i = adr s a + (2 + i) from by omega, h.ldn (by omega) (by omega), show A + 2 + i = A + (2 + i) from by omega]
  refine (h.ld (fun k => ?_) (by omega)).symm
  have g := (h.aat (j := 2 + i) (by omega) (by omega)).1
  exact ovb_no (kne_whb h.kn) h.ov (g.symm.trans k.2.1)
/-- The fields are those that it had. -/
theorem Cp.got (h : Cp m s a l A) {i : Int} (i0 : 0 ≤ i) (i1 : i < m.atl A) : (m.cpm s a A).getv A i = m.getv A i ∧ (m.cpm s a A).getb A i = m.getb A i ∧ (m.cpm s a A).atl A = m.atl A := by
  have hwn : m.wn A = m.atl A + 2 := rfl
  have hA : (m.cpm s a A).ld A = m.ld A := h.ld h.nt.1 (by omega)
  refine ⟨same_getv h.n hA i (fun _ => ?_), same_getb h.n hA i, ?_⟩
  · refine h.ld (fun k => ?_) (by omega)
    have g := (h.aat (j := 2 + i) (by omega) (by omega)).1
    rw [show A + 2 + i = A + (2 + i) from by omega] at k
    exact ovb_no (kne_whb h.kn) h.ov (g.symm.trans k.2.1)
  · rw [(at_of (kne_0.1 h.kn').1).2.1, (at_of (kne_0.1 h.kn).1).2.1, hA]
end
end Go.Proofs.Ytgcpkgogjcgfbaa
namespace Go.Proofs.Ytgcpkgogjcgfbaa
open Go.ChangeShapes Go.WideShapes Go.ChangeAt Go.RowKit
set_option linter.unusedVariables false
set_option linter.unusedSimpArgs false

set_option maxRecDepth 100000 in
set_option maxHeartbeats 2000000 in
theorem pover_any (n s a l x y A : Int) (MA MB : Value) (w : World) (hA : U64 A) :
    Calls Try.prog 33 #[rov n MA MB s a l x y, .int .u64 A] w fun e w' => e = .returned (.bool (ovb s A)) ∧ Up w w' := by
  have hw := Lib.hid (fun w => where_any A hA.1 hA.2 w)
  unfold ovb
  generalize whs A = s1 at hw ⊢
  generalize whp A = p1 at hw
  generalize whb A = b1 at hw ⊢
  have U0 : Up w (w.alloc (.cells (roc n MA MB s a l x y) 31)) := (Up.refl w).alloc _
  have hb0 := Blk.new w 31 (roc n MA MB s a l x y)
  cases b1
  · go_enter Try.func33, Try.ntmps33
    go_wp2_with (fail)
    refine (hw.out _).mono ?_
    rintro e w1 ⟨rfl, h1⟩
    have U1 := U0.trans h1
    have X1 := hb0.up h1
    clear h1 hb0 U0 hw
    have X1c := X1.cell
    simp only [roc] at X1c
    go_wp2
    go_ret
    exact ⟨rfl, U1⟩
  by_cases h : s1 = s
  · have q : (s1 == s) = true := beq_iff_eq.2 h
    rw [decide_eq_true h]
    clear h
    go_enter Try.func33, Try.ntmps33
    go_wp2_with (fail)
    refine (hw.out _).mono ?_
    rintro e w1 ⟨rfl, h1⟩
    have U1 := U0.trans h1
    have X1 := hb0.up h1
    clear h1 hb0 U0 hw
    have X1c := X1.cell
    simp only [roc] at X1c
    go_wp2
    go_ret
    exact ⟨rfl, U1⟩
  · have q : (s1 == s) = false := beq_eq_false_iff_ne.2 h
    rw [decide_eq_false h]
    clear h
    go_enter Try.func33, Try.ntmps33
    go_wp2_with (fail)
    refine (hw.out _).mono ?_
    rintro e w1 ⟨rfl, h1⟩
    have U1 := U0.trans h1
    have X1 := hb0.up h1
    clear h1 hb0 U0 hw
    have X1c := X1.cell
    simp only [roc] at X1c
    go_wp2
    go_ret
    exact ⟨rfl, U1⟩

/-- A room and an error. -/
def RpPost (w : World) (K : Me) (s a' l x y er : Int) (e : Ending) (w' : World) : Prop :=
  ∃ (P' Q' : Addr) (c' d' : Nat), e = .returned (.tuple #[rov K.n (sl P' K.n c') (sl Q' K.n d') s a' l x y, .int .i64 er]) ∧ Sits w' K P' Q' c' d' ∧ Up w w'

set_option maxRecDepth 100000 in
set_option maxHeartbeats 4000000 in
/-- There is no such field. -/
theorem one_err (m : Me) (s a l x y o f : Int) (P Q : Addr) (c d : Nat) (w : World) (hm : Sits w m P Q c d) (hwf : m.wf) (ho : U64 o) (er : Int) (hge : m.gete o f = er) (h0 : er ≠ 0) :
    Calls Try.prog 15 #[rov m.n (sl P m.n c) (sl Q m.n d) s a l x y, .agg #[.int .u64 o, .int .i64 f]] w (RpPost w m s a l x y er) := by
  have q0 : (er != 0) = true := bne_iff_ne.mpr h0
  have hg := Lib.hid (fun (W : World) (U : Up w W) => get_any m o f P Q c d W (hm.up U) ho hwf)
  rw [hge] at hg
  generalize m.getv o f = v at hg
  generalize m.getb o f = b at hg
  have HM := Lib.hid hm
  clear hm hwf ho hge h0
  go_enter Try.func15, Try.ntmps15
  go_wp2_with (fail)
  refine calls_at (fun V hV => ?_)
  have U0 : Up w V := by rw [hV]; exact (((Up.refl _).alloc _).alloc _).alloc _
  have X0 : Blk V w.heap.size 31 (roc m.n (sl P m.n c) (sl Q m.n d) s a l x y) := by rw [hV]; exact ((Blk.new' w rfl _ _).alloc _).alloc _
  have E0 : Blk V (w.heap.size + 1) 46 #[.int .u64 o, .int .i64 f] := by rw [hV]; exact (Blk.new' _ (by simp) _ _).alloc _
  have Z0 : Blk V (w.heap.size + 1 + 1) 31 zr := by rw [hV]; exact Blk.new' _ (by simp) _ _
  clear hV
  refine (hg.out V U0).mono ?_
  rintro e w1 ⟨rfl, h1⟩
  have U1 := U0.trans h1
  have X1 := X0.up h1
  have E1 := E0.up h1
  have Z1 := Z0.up h1
  clear h1 X0 E0 Z0 U0 hg
  have X1c := X1.cell
  have X1f := X1.frozen
  have X1l := X1.lt
  have E1c := E1.cell
  have Z1c := Z1.cell
  have Z1f := Z1.frozen
  have Z1l := Z1.lt
  simp only [zr, roc] at X1c Z1c
  go_wp2_with (fail)
  refine bodyPost_ret (ret_rv rfl _ _ _ ⟨m.n, P, Q, c, d, s, a, l, x, y⟩ _ rfl (Z1.set8 _ _ _ _ _ _ _ _) rfl) rfl ?_
  exact ⟨P, Q, c, d, rfl, (HM.out.up U1).far8 Z1 _ _ _ _ _ _ _ _, U1.set8 (by omega) _ _ _ _ _ _ _ _⟩

set_option maxRecDepth 100000 in
set_option maxHeartbeats 4000000 in
/-- It is over there. -/
theorem one_over (m : Me) (s a l x y o f : Int) (P Q : Addr) (c d : Nat) (w : World) (hm : Sits w m P Q c d) (hwf : m.wf) (ho : U64 o) (hge : m.gete o f = 0) (hov : ovb s o = true) :
    Calls Try.prog 15 #[rov m.n (sl P m.n c) (sl Q m.n d) s a l x y, .agg #[.int .u64 o, .int .i64 f]] w (RpPost w m s a l x y 0) := by
  have hg := Lib.hid (fun (W : World) (U : Up w W) => get_any m o f P Q c d W (hm.up U) ho hwf)
  rw [hge] at hg
  have ht := Lib.hid (fun (W : World) (U : Up w W) => twin_any m o P Q c d W (hm.up U) ho hwf)
  have hv := Lib.hid (fun (W : World) => pover_any m.n s a l x y o (sl P m.n c) (sl Q m.n d) W ho)
  rw [hov] at hv
  generalize m.getv o f = v at hg
  generalize m.getb o f = b at hg
  generalize m.twv o = tv at ht
  generalize m.kne o = kn at ht
  have HM := Lib.hid hm
  clear hm hwf ho hge hov
  go_enter Try.func15, Try.ntmps15
  go_wp2_with (fail)
  refine calls_at (fun V hV => ?_)
  have U0 : Up w V := by rw [hV]; exact (((Up.refl _).alloc _).alloc _).alloc _
  have X0 : Blk V w.heap.size 31 (roc m.n (sl P m.n c) (sl Q m.n d) s a l x y) := by rw [hV]; exact ((Blk.new' w rfl _ _).alloc _).alloc _
  have E0 : Blk V (w.heap.size + 1) 46 #[.int .u64 o, .int .i64 f] := by rw [hV]; exact (Blk.new' _ (by simp) _ _).alloc _
  have Z0 : Blk V (w.heap.size + 1 + 1) 31 zr := by rw [hV]; exact Blk.new' _ (by simp) _ _
  clear hV
  refine (hg.out V U0).mono ?_
  rintro e w1 ⟨rfl, h1⟩
  have U1 := U0.trans h1
  have X1 := X0.up h1
  have E1 := E0.up h1
  have Z1 := Z0.up h1
  clear h1 X0 E0 Z0 U0 hg
  have X1c := X1.cell
  have X1f := X1.frozen
  have X1l := X1.lt
  have E1c := E1.cell
  have Z1c := Z1.cell
  have Z1f := Z1.frozen
  have Z1l := Z1.lt
  simp only [zr, roc] at X1c Z1c
  go_wp2_with (fail)
  refine (ht.out _ U1).mono ?_
  skip -- X1c X1f X1l E1c Z1c Z1f Z1l
  rintro e w2 ⟨rfl, h2⟩
  have U2 := U1.trans h2
  have X2 := X1.up h2
  have E2 := E1.up h2
  have Z2 := Z1.up h2
  clear h2 X1 E1 Z1 U1 ht X1c X1f X1l E1c Z1c Z1f Z1l
  have X2c := X2.cell
  have X2f := X2.frozen
  have X2l := X2.lt
  have E2c := E2.cell
  have Z2c := Z2.cell
  have Z2f := Z2.frozen
  have Z2l := Z2.lt
  simp only [zr, roc] at X2c Z2c
  go_wp2_with (fail)
  refine (hv.out _).mono ?_
  rintro e w3 ⟨rfl, h3⟩
  have U3 := U2.trans h3
  have X3 := X2.up h3
  have E3 := E2.up h3
  have Z3 := Z2.up h3
  clear h3 X2 E2 Z2 U2 hv X2c X2f X2l E2c Z2c Z2f Z2l
  have X3c := X3.cell
  have X3f := X3.frozen
  have X3l := X3.lt
  have E3c := E3.cell
  have Z3c := Z3.cell
  have Z3f := Z3.frozen
  have Z3l := Z3.lt
  simp only [zr, roc] at X3c Z3c
  go_wp2_with (fail)
  refine bodyPost_ret (ret_rv rfl _ _ _ ⟨m.n, P, Q, c, d, s, a, l, x, y⟩ _ rfl (Z3.set8 _ _ _ _ _ _ _ _) rfl) rfl ?_
  exact ⟨P, Q, c, d, rfl, (HM.out.up U3).far8 Z3 _ _ _ _ _ _ _ _, U3.set8 (by omega) _ _ _ _ _ _ _ _⟩

set_option maxRecDepth 100000 in
set_option maxHeartbeats 4000000 in
/-- It has no twin. -/
theorem one_none (m : Me) (s a l x y o f : Int) (P Q : Addr) (c d : Nat) (w : World) (hm : Sits w m P Q c d) (hwf : m.wf) (ho : U64 o) (hge : m.gete o f = 0) (hov : ovb s o = false) (h0 : m.twv o = 0) :
    Calls Try.prog 15 #[rov m.n (sl P m.n c) (sl Q m.n d) s a l x y, .agg #[.int .u64 o, .int .i64 f]] w (RpPost w m s a l x y 0) := by
  have hg := Lib.hid (fun (W : World) (U : Up w W) => get_any m o f P Q c d W (hm.up U) ho hwf)
  rw [hge] at hg
  have ht := Lib.hid (fun (W : World) (U : Up w W) => twin_any m o P Q c d W (hm.up U) ho hwf)
  have hv := Lib.hid (fun (W : World) => pover_any m.n s a l x y o (sl P m.n c) (sl Q m.n d) W ho)
  rw [hov] at hv
  rw [h0] at ht
  generalize m.getv o f = v at hg
  generalize m.getb o f = b at hg
  generalize m.kne o = kn at ht
  have HM := Lib.hid hm
  clear hm hwf ho hge hov h0
  go_enter Try.func15, Try.ntmps15
  go_wp2_with (fail)
  refine calls_at (fun V hV => ?_)
  have U0 : Up w V := by rw [hV]; exact (((Up.refl _).alloc _).alloc _).alloc _
  have X0 : Blk V w.heap.size 31 (roc m.n (sl P m.n c) (sl Q m.n d) s a l x y) := by rw [hV]; exact ((Blk.new' w rfl _ _).alloc _).alloc _
  have E0 : Blk V (w.heap.size + 1) 46 #[.int .u64 o, .int .i64 f] := by rw [hV]; exact (Blk.new' _ (by simp) _ _).alloc _
  have Z0 : Blk V (w.heap.size + 1 + 1) 31 zr := by rw [hV]; exact Blk.new' _ (by simp) _ _
  clear hV
  refine (hg.out V U0).mono ?_
  rintro e w1 ⟨rfl, h1⟩
  have U1 := U0.trans h1
  have X1 := X0.up h1
  have E1 := E0.up h1
  have Z1 := Z0.up h1
  clear h1 X0 E0 Z0 U0 hg
  have X1c := X1.cell
  have X1f := X1.frozen
  have X1l := X1.lt
  have E1c := E1.cell
  have Z1c := Z1.cell
  have Z1f := Z1.frozen
  have Z1l := Z1.lt
  simp only [zr, roc] at X1c Z1c
  go_wp2_with (fail)
  refine (ht.out _ U1).mono ?_
  skip -- X1c X1f X1l E1c Z1c Z1f Z1l
  rintro e w2 ⟨rfl, h2⟩
  have U2 := U1.trans h2
  have X2 := X1.up h2
  have E2 := E1.up h2
  have Z2 := Z1.up h2
  clear h2 X1 E1 Z1 U1 ht X1c X1f X1l E1c Z1c Z1f Z1l
  have X2c := X2.cell
  have X2f := X2.frozen
  have X2l := X2.lt
  have E2c := E2.cell
  have Z2c := Z2.cell
  have Z2f := Z2.frozen
  have Z2l := Z2.lt
  simp only [zr, roc] at X2c Z2c
  go_wp2_with (fail)
  refine (hv.out _).mono ?_
  rintro e w3 ⟨rfl, h3⟩
  have U3 := U2.trans h3
  have X3 := X2.up h3
  have E3 := E2.up h3
  have Z3 := Z2.up h3
  clear h3 X2 E2 Z2 U2 hv X2c X2f X2l E2c Z2c Z2f Z2l
  have X3c := X3.cell
  have X3f := X3.frozen
  have X3l := X3.lt
  have E3c := E3.cell
  have Z3c := Z3.cell
  have Z3f := Z3.frozen
  have Z3l := Z3.lt
  simp only [zr, roc] at X3c Z3c
  go_wp2_with (fail)
  refine bodyPost_ret (ret_rv rfl _ _ _ ⟨m.n, P, Q, c, d, s, a, l, x, y⟩ _ rfl (Z3.set8 _ _ _ _ _ _ _ _) rfl) rfl ?_
  exact ⟨P, Q, c, d, rfl, (HM.out.up U3).far8 Z3 _ _ _ _ _ _ _ _, U3.set8 (by omega) _ _ _ _ _ _ _ _⟩

set_option maxRecDepth 100000 in
set_option maxHeartbeats 4000000 in
/-- A word that is no pointer. -/
theorem one_word (m : Me) (s a l x y o f : Int) (P Q : Addr) (c d : Nat) (w : World) (hm : Sits w m P Q c d) (hwf : m.wf) (ho : U64 o) (hge : m.gete o f = 0) (hov : ovb s o = false) (h0 : m.twv o ≠ 0) (hp : m.getb o f = false) :
    Calls Try.prog 15 #[rov m.n (sl P m.n c) (sl Q m.n d) s a l x y, .agg #[.int .u64 o, .int .i64 f]] w (RpPost w (m.setm (m.twv o) f (m.getv o f)) s a l x y (m.gete (m.twv o) f)) := by
  have hg := Lib.hid (fun (W : World) (U : Up w W) => get_any m o f P Q c d W (hm.up U) ho hwf)
  rw [hge] at hg
  rw [hp] at hg
  have ht := Lib.hid (fun (W : World) (U : Up w W) => twin_any m o P Q c d W (hm.up U) ho hwf)
  have hv := Lib.hid (fun (W : World) => pover_any m.n s a l x y o (sl P m.n c) (sl Q m.n d) W ho)
  rw [hov] at hv
  have q1 : (m.twv o == 0) = false := beq_eq_false_iff_ne.2 h0
  have hs := Lib.hid (fun (W : World) (U : Up w W) => set_any m (m.twv o) f (m.getv o f) P Q c d W (hm.up U) (twv_u64 hwf o) hwf)
  generalize m.setm (m.twv o) f (m.getv o f) = K at hs ⊢
  generalize m.gete (m.twv o) f = er at hs ⊢
  generalize m.getv o f = v at hg hs
  generalize m.twv o = tv at ht hs q1
  generalize m.kne o = kn at ht
  have HM := Lib.hid hm
  clear hm hwf ho hge hov h0 hp
  go_enter Try.func15, Try.ntmps15
  go_wp2_with (fail)
  refine calls_at (fun V hV => ?_)
  have U0 : Up w V := by rw [hV]; exact (((Up.refl _).alloc _).alloc _).alloc _
  have X0 : Blk V w.heap.size 31 (roc m.n (sl P m.n c) (sl Q m.n d) s a l x y) := by rw [hV]; exact ((Blk.new' w rfl _ _).alloc _).alloc _
  have E0 : Blk V (w.heap.size + 1) 46 #[.int .u64 o, .int .i64 f] := by rw [hV]; exact (Blk.new' _ (by simp) _ _).alloc _
  have Z0 : Blk V (w.heap.size + 1 + 1) 31 zr := by rw [hV]; exact Blk.new' _ (by simp) _ _
  clear hV
  refine (hg.out V U0).mono ?_
  rintro e w1 ⟨rfl, h1⟩
  have U1 := U0.trans h1
  have X1 := X0.up h1
  have E1 := E0.up h1
  have Z1 := Z0.up h1
  clear h1 X0 E0 Z0 U0 hg
  have X1c := X1.cell
  have X1f := X1.frozen
  have X1l := X1.lt
  have E1c := E1.cell
  have Z1c := Z1.cell
  have Z1f := Z1.frozen
  have Z1l := Z1.lt
  simp only [zr, roc] at X1c Z1c
  go_wp2_with (fail)
  refine (ht.out _ U1).mono ?_
  skip -- X1c X1f X1l E1c Z1c Z1f Z1l
  rintro e w2 ⟨rfl, h2⟩
  have U2 := U1.trans h2
  have X2 := X1.up h2
  have E2 := E1.up h2
  have Z2 := Z1.up h2
  clear h2 X1 E1 Z1 U1 ht X1c X1f X1l E1c Z1c Z1f Z1l
  have X2c := X2.cell
  have X2f := X2.frozen
  have X2l := X2.lt
  have E2c := E2.cell
  have Z2c := Z2.cell
  have Z2f := Z2.frozen
  have Z2l := Z2.lt
  simp only [zr, roc] at X2c Z2c
  go_wp2_with (fail)
  refine (hv.out _).mono ?_
  rintro e w3 ⟨rfl, h3⟩
  have U3 := U2.trans h3
  have X3 := X2.up h3
  have E3 := E2.up h3
  have Z3 := Z2.up h3
  clear h3 X2 E2 Z2 U2 hv X2c X2f X2l E2c Z2c Z2f Z2l
  have X3c := X3.cell
  have X3f := X3.frozen
  have X3l := X3.lt
  have E3c := E3.cell
  have Z3c := Z3.cell
  have Z3f := Z3.frozen
  have Z3l := Z3.lt
  simp only [zr, roc] at X3c Z3c
  go_wp2_with (fail)
  refine (hs.out _ U3).mono ?_
  clear X3c X3f X3l E3c Z3c Z3f Z3l hs
  rintro e w4 ⟨P', Q', c', d', rfl, sz, h4⟩
  have U4 := U3.trans h4
  have X4 := X3.up h4
  have E4 := E3.up h4
  have Z4 := Z3.up h4
  clear h4 X3 E3 Z3 U3
  have X4c := X4.cell
  have X4f := X4.frozen
  have X4l := X4.lt
  have Z4c := Z4.cell
  have Z4f := Z4.frozen
  have Z4l := Z4.lt
  simp only [zr, roc] at X4c Z4c
  go_wp2_with (fail)
  refine bodyPost_ret (ret_rv rfl _ _ _ ⟨K.n, P', Q', c', d', s, a, l, x, y⟩ _ rfl ((((Z4.far (by simp <;> omega) _).far (by simp <;> omega) _).far (by simp <;> omega) _).set8 _ _ _ _ _ _ _ _) rfl) rfl ?_
  refine ⟨P', Q', c', d', rfl, ?_, (((U4.setCell (Nat.le_refl _) _).setCell (Nat.le_refl _) _).setCell (Nat.le_refl _) _).set8 (by omega) _ _ _ _ _ _ _ _⟩
  exact (((sz.far X4 (by simp) _).far (X4.set_ 0 _) (by simp) _).far ((X4.set_ 0 _).set_ 1 _) (by simp) _).far8 (((Z4.far (by simp <;> omega) _).far (by simp <;> omega) _).far (by simp <;> omega) _) _ _ _ _ _ _ _ _

set_option maxRecDepth 100000 in
set_option maxHeartbeats 4000000 in
/-- A pointer whose object can't have a twin. -/
theorem one_perr (m : Me) (s a l x y o f : Int) (P Q : Addr) (c d : Nat) (w : World) (hm : Sits w m P Q c d) (hwf : m.wf) (ho : U64 o) (hr : rgt s a l) (hl : l = m.n) (hge : m.gete o f = 0) (hov : ovb s o = false) (h0 : m.twv o ≠ 0) (hp : m.getb o f = true) (K : Me) (a' b' er : Int) (ht' : toa m s a l (m.getv o f) = ⟨K, a', b', er⟩) (he : er ≠ 0) :
    Calls Try.prog 15 #[rov m.n (sl P m.n c) (sl Q m.n d) s a l x y, .agg #[.int .u64 o, .int .i64 f]] w (RpPost w K s a' l x y er) := by
  have q2 : (er == 0) = false := beq_eq_false_iff_ne.2 he
  have hg := Lib.hid (fun (W : World) (U : Up w W) => get_any m o f P Q c d W (hm.up U) ho hwf)
  rw [hge] at hg
  rw [hp] at hg
  have ht := Lib.hid (fun (W : World) (U : Up w W) => twin_any m o P Q c d W (hm.up U) ho hwf)
  have hv := Lib.hid (fun (W : World) => pover_any m.n s a l x y o (sl P m.n c) (sl Q m.n d) W ho)
  rw [hov] at hv
  have q1 : (m.twv o == 0) = false := beq_eq_false_iff_ne.2 h0
  have hto := Lib.hid (fun (W : World) (U : Up w W) => to_any m s a l x y (m.getv o f) P Q c d W (hm.up U) (getv_u64 hwf o f) hwf hr hl)
  rw [ht'] at hto
  generalize m.getv o f = v at hg hto
  generalize m.twv o = tv at ht q1
  generalize m.kne o = kn at ht
  have HM := Lib.hid hm
  clear hm hwf ho hge hov h0 hp hr hl ht' he
  go_enter Try.func15, Try.ntmps15
  go_wp2_with (fail)
  refine calls_at (fun V hV => ?_)
  have U0 : Up w V := by rw [hV]; exact (((Up.refl _).alloc _).alloc _).alloc _
  have X0 : Blk V w.heap.size 31 (roc m.n (sl P m.n c) (sl Q m.n d) s a l x y) := by rw [hV]; exact ((Blk.new' w rfl _ _).alloc _).alloc _
  have E0 : Blk V (w.heap.size + 1) 46 #[.int .u64 o, .int .i64 f] := by rw [hV]; exact (Blk.new' _ (by simp) _ _).alloc _
  have Z0 : Blk V (w.heap.size + 1 + 1) 31 zr := by rw [hV]; exact Blk.new' _ (by simp) _ _
  clear hV
  refine (hg.out V U0).mono ?_
  rintro e w1 ⟨rfl, h1⟩
  have U1 := U0.trans h1
  have X1 := X0.up h1
  have E1 := E0.up h1
  have Z1 := Z0.up h1
  clear h1 X0 E0 Z0 U0 hg
  have X1c := X1.cell
  have X1f := X1.frozen
  have X1l := X1.lt
  have E1c := E1.cell
  have Z1c := Z1.cell
  have Z1f := Z1.frozen
  have Z1l := Z1.lt
  simp only [zr, roc] at X1c Z1c
  go_wp2_with (fail)
  refine (ht.out _ U1).mono ?_
  skip -- X1c X1f X1l E1c Z1c Z1f Z1l
  rintro e w2 ⟨rfl, h2⟩
  have U2 := U1.trans h2
  have X2 := X1.up h2
  have E2 := E1.up h2
  have Z2 := Z1.up h2
  clear h2 X1 E1 Z1 U1 ht X1c X1f X1l E1c Z1c Z1f Z1l
  have X2c := X2.cell
  have X2f := X2.frozen
  have X2l := X2.lt
  have E2c := E2.cell
  have Z2c := Z2.cell
  have Z2f := Z2.frozen
  have Z2l := Z2.lt
  simp only [zr, roc] at X2c Z2c
  go_wp2_with (fail)
  refine (hv.out _).mono ?_
  rintro e w3 ⟨rfl, h3⟩
  have U3 := U2.trans h3
  have X3 := X2.up h3
  have E3 := E2.up h3
  have Z3 := Z2.up h3
  clear h3 X2 E2 Z2 U2 hv X2c X2f X2l E2c Z2c Z2f Z2l
  have X3c := X3.cell
  have X3f := X3.frozen
  have X3l := X3.lt
  have E3c := E3.cell
  have Z3c := Z3.cell
  have Z3f := Z3.frozen
  have Z3l := Z3.lt
  simp only [zr, roc] at X3c Z3c
  go_wp2_with (fail)
  refine (hto.out _ U3).mono ?_
  rintro e w4 ⟨P1, Q1, c1, d1, rfl, s1, h4, -⟩
  have U4 := U3.trans h4
  have X4 := X3.up h4
  have E4 := E3.up h4
  have Z4 := Z3.up h4
  clear h4 X3 E3 Z3 U3 hto X3c X3f X3l E3c Z3c Z3f Z3l
  have X4c := X4.cell
  have X4f := X4.frozen
  have X4l := X4.lt
  have E4c := E4.cell
  have E4l := E4.lt
  have Z4c := Z4.cell
  have Z4f := Z4.frozen
  have Z4l := Z4.lt
  simp only [zr, roc] at X4c Z4c
  go_wp2_with (fail)
  refine bodyPost_ret (ret_rv rfl _ _ _ ⟨K.n, P1, Q1, c1, d1, s, a', l, x, y⟩ _ rfl ((Z4.far8 (by simp <;> omega) _ _ _ _ _ _ _ _).set8 _ _ _ _ _ _ _ _) rfl) rfl ?_
  exact ⟨P1, Q1, c1, d1, rfl, (s1.far8 X4 _ _ _ _ _ _ _ _).far8 (Z4.far8 (by simp <;> omega) _ _ _ _ _ _ _ _) _ _ _ _ _ _ _ _, (U4.set8 (Nat.le_refl _) _ _ _ _ _ _ _ _).set8 (by omega) _ _ _ _ _ _ _ _⟩

set_option maxRecDepth 100000 in
set_option maxHeartbeats 4000000 in
/-- A pointer whose object has a twin then. -/
theorem one_ptr (m : Me) (s a l x y o f : Int) (P Q : Addr) (c d : Nat) (w : World) (hm : Sits w m P Q c d) (hwf : m.wf) (ho : U64 o) (hr : rgt s a l) (hl : l = m.n) (hge : m.gete o f = 0) (hov : ovb s o = false) (h0 : m.twv o ≠ 0) (hp : m.getb o f = true) (K : Me) (a' b' : Int) (ht' : toa m s a l (m.getv o f) = ⟨K, a', b', 0⟩) (hK : K.wf) :
    Calls Try.prog 15 #[rov m.n (sl P m.n c) (sl Q m.n d) s a l x y, .agg #[.int .u64 o, .int .i64 f]] w (RpPost w (K.setm (m.twv o) f b') s a' l x y (K.gete (m.twv o) f)) := by
  have hg := Lib.hid (fun (W : World) (U : Up w W) => get_any m o f P Q c d W (hm.up U) ho hwf)
  rw [hge] at hg
  rw [hp] at hg
  have ht := Lib.hid (fun (W : World) (U : Up w W) => twin_any m o P Q c d W (hm.up U) ho hwf)
  have hv := Lib.hid (fun (W : World) => pover_any m.n s a l x y o (sl P m.n c) (sl Q m.n d) W ho)
  rw [hov] at hv
  have q1 : (m.twv o == 0) = false := beq_eq_false_iff_ne.2 h0
  have hto := Lib.hid (fun (W : World) (U : Up w W) => to_any m s a l x y (m.getv o f) P Q c d W (hm.up U) (getv_u64 hwf o f) hwf hr hl)
  rw [ht'] at hto
  have hs := Lib.hid (fun (P1 Q1 : Addr) (c1 d1 : Nat) (W : World) (S : Sits W K P1 Q1 c1 d1) => set_any K (m.twv o) f b' P1 Q1 c1 d1 W S (twv_u64 hwf o) hK)
  generalize K.setm (m.twv o) f b' = J at hs ⊢
  generalize K.gete (m.twv o) f = er at hs ⊢
  generalize m.getv o f = v at hg hto
  generalize m.twv o = tv at ht q1 hs
  generalize m.kne o = kn at ht
  have HM := Lib.hid hm
  clear hm hwf ho hge hov h0 hp hr hl ht' hK
  go_enter Try.func15, Try.ntmps15
  go_wp2_with (fail)
  refine calls_at (fun V hV => ?_)
  have U0 : Up w V := by rw [hV]; exact (((Up.refl _).alloc _).alloc _).alloc _
  have X0 : Blk V w.heap.size 31 (roc m.n (sl P m.n c) (sl Q m.n d) s a l x y) := by rw [hV]; exact ((Blk.new' w rfl _ _).alloc _).alloc _
  have E0 : Blk V (w.heap.size + 1) 46 #[.int .u64 o, .int .i64 f] := by rw [hV]; exact (Blk.new' _ (by simp) _ _).alloc _
  have Z0 : Blk V (w.heap.size + 1 + 1) 31 zr := by rw [hV]; exact Blk.new' _ (by simp) _ _
  clear hV
  refine (hg.out V U0).mono ?_
  rintro e w1 ⟨rfl, h1⟩
  have U1 := U0.trans h1
  have X1 := X0.up h1
  have E1 := E0.up h1
  have Z1 := Z0.up h1
  clear h1 X0 E0 Z0 U0 hg
  have X1c := X1.cell
  have X1f := X1.frozen
  have X1l := X1.lt
  have E1c := E1.cell
  have Z1c := Z1.cell
  have Z1f := Z1.frozen
  have Z1l := Z1.lt
  simp only [zr, roc] at X1c Z1c
  go_wp2_with (fail)
  refine (ht.out _ U1).mono ?_
  skip -- X1c X1f X1l E1c Z1c Z1f Z1l
  rintro e w2 ⟨rfl, h2⟩
  have U2 := U1.trans h2
  have X2 := X1.up h2
  have E2 := E1.up h2
  have Z2 := Z1.up h2
  clear h2 X1 E1 Z1 U1 ht X1c X1f X1l E1c Z1c Z1f Z1l
  have X2c := X2.cell
  have X2f := X2.frozen
  have X2l := X2.lt
  have E2c := E2.cell
  have Z2c := Z2.cell
  have Z2f := Z2.frozen
  have Z2l := Z2.lt
  simp only [zr, roc] at X2c Z2c
  go_wp2_with (fail)
  refine (hv.out _).mono ?_
  rintro e w3 ⟨rfl, h3⟩
  have U3 := U2.trans h3
  have X3 := X2.up h3
  have E3 := E2.up h3
  have Z3 := Z2.up h3
  clear h3 X2 E2 Z2 U2 hv X2c X2f X2l E2c Z2c Z2f Z2l
  have X3c := X3.cell
  have X3f := X3.frozen
  have X3l := X3.lt
  have E3c := E3.cell
  have Z3c := Z3.cell
  have Z3f := Z3.frozen
  have Z3l := Z3.lt
  simp only [zr, roc] at X3c Z3c
  go_wp2_with (fail)
  refine (hto.out _ U3).mono ?_
  rintro e w4 ⟨P1, Q1, c1, d1, rfl, s1, h4, -⟩
  have U4 := U3.trans h4
  have X4 := X3.up h4
  have E4 := E3.up h4
  have Z4 := Z3.up h4
  clear h4 X3 E3 Z3 U3 hto X3c X3f X3l E3c Z3c Z3f Z3l
  have X4c := X4.cell
  have X4f := X4.frozen
  have X4l := X4.lt
  have E4c := E4.cell
  have E4l := E4.lt
  have Z4c := Z4.cell
  have Z4f := Z4.frozen
  have Z4l := Z4.lt
  simp only [zr, roc] at X4c Z4c
  go_wp2_with (fail)
  refine calls_at (fun V5 hV5 => ?_)
  have U5 : Up w V5 := by rw [hV5]; exact U4.set8 (Nat.le_refl _) _ _ _ _ _ _ _ _
  have X5 : Blk V5 w.heap.size 31 (roc K.n (sl P1 K.n c1) (sl Q1 K.n d1) s a' l x y) := by rw [hV5]; exact X4.set8 _ _ _ _ _ _ _ _
  have E5 : Blk V5 (w.heap.size + 1) 46 #[.int .u64 o, .int .i64 f] := by rw [hV5]; exact E4.far8 (by simp) _ _ _ _ _ _ _ _
  have Z5 : Blk V5 (w.heap.size + 1 + 1) 31 zr := by rw [hV5]; exact Z4.far8 (by simp <;> omega) _ _ _ _ _ _ _ _
  have s5 := s1.far8 X4 (.int .i64 K.n) (sl P1 K.n c1) (sl Q1 K.n d1) (.int .i64 s) (.int .i64 a') (.int .i64 l) (.int .i64 x) (.int .i64 y)
  rw [← hV5] at s5
  clear hV5 X4 E4 Z4 U4 s1 X4c X4f X4l E4c E4l Z4c Z4f Z4l
  refine (hs.out P1 Q1 c1 d1 V5 s5).mono ?_
  clear hs s5
  rintro e w6 ⟨P', Q', c', d', rfl, sz, h6⟩
  have U6 := U5.trans h6
  have X6 := X5.up h6
  have E6 := E5.up h6
  have Z6 := Z5.up h6
  clear h6 X5 E5 Z5 U5
  have X6c := X6.cell
  have X6f := X6.frozen
  have X6l := X6.lt
  have Z6c := Z6.cell
  have Z6f := Z6.frozen
  have Z6l := Z6.lt
  simp only [zr, roc] at X6c Z6c
  go_wp2_with (fail)
  refine bodyPost_ret (ret_rv rfl _ _ _ ⟨J.n, P', Q', c', d', s, a', l, x, y⟩ _ rfl ((((Z6.far (by simp <;> omega) _).far (by simp <;> omega) _).far (by simp <;> omega) _).set8 _ _ _ _ _ _ _ _) rfl) rfl ?_
  refine ⟨P', Q', c', d', rfl, ?_, (((U6.setCell (Nat.le_refl _) _).setCell (Nat.le_refl _) _).setCell (Nat.le_refl _) _).set8 (by omega) _ _ _ _ _ _ _ _⟩
  exact (((sz.far X6 (by simp) _).far (X6.set_ 0 _) (by simp) _).far ((X6.set_ 0 _).set_ 1 _) (by simp) _).far8 (((Z6.far (by simp <;> omega) _).far (by simp <;> omega) _).far (by simp <;> omega) _) _ _ _ _ _ _ _ _

/-- One entry. -/
theorem one_any (m : Me) (s a l x y o f : Int) (P Q : Addr) (c d : Nat) (w : World) (hm : Sits w m P Q c d) (hwf : m.wf) (ho : U64 o) (hr : rgt s a l) (hl : l = m.n) :
    Calls Try.prog 15 #[rov m.n (sl P m.n c) (sl Q m.n d) s a l x y, .agg #[.int .u64 o, .int .i64 f]] w (RpPost w (rep m s a l o f).m s (rep m s a l o f).a l x y (rep m s a l o f).e) := by
  by_cases h0 : m.gete o f = 0
  · by_cases h1 : ovb s o = true
    · rw [show rep m s a l o f = ⟨m, a, 0⟩ from by unfold rep; rw [if_neg (by simp [h0]), if_pos h1]]
      exact one_over m s a l x y o f P Q c d w hm hwf ho h0 h1
    · have h1' : ovb s o = false := by simpa using h1
      by_cases h2 : m.twv o = 0
      · rw [show rep m s a l o f = ⟨m, a, 0⟩ from by unfold rep; rw [if_neg (by simp [h0]), if_neg h1, if_pos h2]]
        exact one_none m s a l x y o f P Q c d w hm hwf ho h0 h1' h2
      · by_cases h3 : m.getb o f = true
        · have K := toa_kb hm.1 hwf hr hl (m.getv o f)
          by_cases h4 : (toa m s a l (m.getv o f)).e = 0
          · rw [show rep m s a l o f = ⟨(toa m s a l (m.getv o f)).m.setm (m.twv o) f (toa m s a l (m.getv o f)).b, (toa m s a l (m.getv o f)).a, (toa m s a l (m.getv o f)).m.gete (m.twv o) f⟩ from by unfold rep; rw [if_neg (by simp [h0]), if_neg h1, if_neg h2, if_pos h3, if_neg (by simp [h4])]]
            exact one_ptr m s a l x y o f P Q c d w hm hwf ho hr hl h0 h1' h2 h3 _ _ _ (by rw [← h4]) K.wf
          · rw [show rep m s a l o f = ⟨(toa m s a l (m.getv o f)).m, (toa m s a l (m.getv o f)).a, (toa m s a l (m.getv o f)).e⟩ from by unfold rep; rw [if_neg (by simp [h0]), if_neg h1, if_neg h2, if_pos h3, if_pos h4]]
            exact one_perr m s a l x y o f P Q c d w hm hwf ho hr hl h0 h1' h2 h3 _ _ _ _ rfl h4
        · have h3' : m.getb o f = false := by simpa using h3
          rw [show rep m s a l o f = ⟨m.setm (m.twv o) f (m.getv o f), a, m.gete (m.twv o) f⟩ from by unfold rep; rw [if_neg (by simp [h0]), if_neg h1, if_neg h2, if_neg h3]]
          exact one_word m s a l x y o f P Q c d w hm hwf ho h0 h1' h2 h3'
  · rw [show rep m s a l o f = ⟨m, a, m.gete o f⟩ from by unfold rep; rw [if_pos h0]]
    exact one_err m s a l x y o f P Q c d w hm hwf ho _ rfl h0
end Go.Proofs.Ytgcpkgogjcgfbaa
namespace Go.Proofs.Ytgcpkgogjcgfbaa
open Go.ChangeShapes Go.WideShapes Go.ChangeAt Go.RowKit
set_option linter.unusedVariables false
set_option linter.unusedSimpArgs false

set_option maxRecDepth 100000 in
set_option maxHeartbeats 4000000 in
theorem psame_err (m : Me) (s a l x y A : Int) (P Q : Addr) (c d : Nat) (w : World) (hm : Sits w m P Q c d) (hwf : m.wf) (hA : U64 A) (h0 : A ≠ 0) (ht : m.twv A = 0) (hk : m.kne A ≠ 0) :
    Calls Try.prog 21 #[rov m.n (sl P m.n c) (sl Q m.n d) s a l x y, .int .u64 A] w (fun e w' => e = .returned (.bool false) ∧ Up w w') := by
  have hto := Lib.hid (fun (W : World) (U : Up w W) => twin_any m A P Q c d W (hm.up U) hA hwf)
  have hat := Lib.hid (fun (W : World) (U : Up w W) => at_any m A P Q c d W (hm.up U) hA hwf)
  have hb0 := Lib.hid (fun (W : World) (U : Up w W) => at_any m 0 P Q c d W (hm.up U) u64_0 hwf)
  have hv := Lib.hid (fun (W : World) => pover_any m.n s a l x y A (sl P m.n c) (sl Q m.n d) W hA)
  have hv0 := Lib.hid (fun (W : World) => pover_any m.n s a l x y 0 (sl P m.n c) (sl Q m.n d) W u64_0)
  rw [ht] at hto
  rw [ovb_0] at hv0
  have q0 : (A == 0) = false := beq_eq_false_iff_ne.2 h0
  have q1 : (m.kne A == 0) = false := beq_eq_false_iff_ne.2 hk
  generalize m.kne A = kn at hto q1
  generalize ovb s A = ob at hv
  generalize m.att A = t at hat
  generalize m.atl A = lo at hat
  generalize m.atm A = mp at hat
  generalize m.ate A = er at hat
  generalize m.att 0 = t2 at hb0
  generalize m.atl 0 = lo2 at hb0
  generalize m.atm 0 = mp2 at hb0
  generalize m.ate 0 = er2 at hb0
  clear hm hwf hA h0 ht hk
  go_enter Try.func21, Try.ntmps21
  go_wp2_with (fail)
  refine calls_at (fun V1 hV => ?_)
  have kv : Up w V1 := by rw [hV]; (repeat (first | with_reducible exact Up.refl _ | with_reducible refine Up.alloc ?_ _ | with_reducible refine Up.drew ?_ | refine Up.setCell ?_ (by simp <;> omega) _))
  have Xv : Blk V1 (w.heap.size) 31 #[.int .i64 m.n, .slice (some P) m.n c, .slice (some Q) m.n d, .int .i64 s, .int .i64 a, .int .i64 l, .int .i64 x, .int .i64 y] := by rw [hV]; (repeat (first | with_reducible exact Blk.new' _ (by simp) _ _ | with_reducible refine Blk.alloc ?_ _ | with_reducible refine Blk.drew ?_ | refine Blk.far ?_ (by simp <;> omega) _))
  have Uv : Up w V1 := kv
  clear hV kv 
  refine (hto.out V1 Uv).mono ?_
  rintro e w1 ⟨rfl, k1⟩
  have X1 := Xv.up k1
  have U1 := Uv.trans k1
  clear k1 Uv Xv 
  have X1c := X1.cell
  have X1f := X1.frozen
  have X1l := X1.lt
  go_wp2_with (fail)
  refine calls_at (fun V2 hV => ?_)
  have kv : Up w1 V2 := by rw [hV]; (repeat (first | with_reducible exact Up.refl _ | with_reducible refine Up.alloc ?_ _ | with_reducible refine Up.drew ?_ | refine Up.setCell ?_ (by simp <;> omega) _))
  have Xv := X1.up kv
  have Uv : Up w V2 := U1.trans kv
  clear hV kv X1 X1c X1f X1l U1
  refine (hat.out V2 Uv).mono ?_
  rintro e w2 ⟨rfl, k2⟩
  have X2 := Xv.up k2
  have U2 := Uv.trans k2
  clear k2 Uv Xv 
  have X2c := X2.cell
  have X2f := X2.frozen
  have X2l := X2.lt
  go_wp2_with (fail)
  refine calls_at (fun V3 hV => ?_)
  have kv : Up w2 V3 := by rw [hV]; (repeat (first | with_reducible exact Up.refl _ | with_reducible refine Up.alloc ?_ _ | with_reducible refine Up.drew ?_ | refine Up.setCell ?_ (by simp <;> omega) _))
  have Xv := X2.up kv
  have Yv : Blk V3 (w2.heap.size) 55 #[.int .i64 t, .int .i64 lo, .int .u64 mp] := by rw [hV]; (repeat (first | with_reducible exact Blk.new' _ (by simp) _ _ | with_reducible refine Blk.alloc ?_ _ | with_reducible refine Blk.drew ?_ | refine Blk.far ?_ (by simp <;> omega) _))
  have Uv : Up w V3 := U2.trans kv
  clear hV kv X2 X2c X2f X2l U2
  refine (hb0.out V3 Uv).mono ?_
  rintro e w3 ⟨rfl, k3⟩
  have X3 := Xv.up k3
  have Y3 := Yv.up k3
  have U3 := Uv.trans k3
  clear k3 Uv Xv Yv 
  have X3c := X3.cell
  have X3f := X3.frozen
  have X3l := X3.lt
  have Y3c := Y3.cell
  have Y3f := Y3.frozen
  have Y3l := Y3.lt
  go_wp2_with (fail)
  refine calls_at (fun V4 hV => ?_)
  have kv : Up w3 V4 := by rw [hV]; (repeat (first | with_reducible exact Up.refl _ | with_reducible refine Up.alloc ?_ _ | with_reducible refine Up.drew ?_ | refine Up.setCell ?_ (by simp <;> omega) _))
  have Xv := X3.up kv
  have Yv := Y3.up kv
  have Zv : Blk V4 (w3.heap.size) 55 #[.int .i64 t2, .int .i64 lo2, .int .u64 mp2] := by rw [hV]; (repeat (first | with_reducible exact Blk.new' _ (by simp) _ _ | with_reducible refine Blk.alloc ?_ _ | with_reducible refine Blk.drew ?_ | refine Blk.far ?_ (by simp <;> omega) _))
  have Uv : Up w V4 := U3.trans kv
  clear hV kv X3 X3c X3f X3l Y3 Y3c Y3f Y3l U3
  refine (hv0.out V4).mono ?_
  rintro e w4 ⟨rfl, k4⟩
  have X4 := Xv.up k4
  have Y4 := Yv.up k4
  have Z4 := Zv.up k4
  have U4 := Uv.trans k4
  clear k4 Uv Xv Yv Zv 
  have X4c := X4.cell
  have X4f := X4.frozen
  have X4l := X4.lt
  have Y4c := Y4.cell
  have Y4f := Y4.frozen
  have Y4l := Y4.lt
  have Z4c := Z4.cell
  have Z4f := Z4.frozen
  have Z4l := Z4.lt
  go_wp2
  go_ret
  refine ⟨rfl, ?_⟩
  (repeat (first | with_reducible exact U4 | with_reducible refine Up.alloc ?_ _ | with_reducible refine Up.drew ?_ | refine Up.setCell ?_ (by simp <;> omega) _))

set_option maxRecDepth 100000 in
set_option maxHeartbeats 4000000 in
theorem psame_none (m : Me) (s a l x y A : Int) (P Q : Addr) (c d : Nat) (w : World) (hm : Sits w m P Q c d) (hwf : m.wf) (hA : U64 A) (h0 : A ≠ 0) (ht : m.twv A = 0) (hk : m.kne A = 0) (ho : ovb s A = false) :
    Calls Try.prog 21 #[rov m.n (sl P m.n c) (sl Q m.n d) s a l x y, .int .u64 A] w (fun e w' => e = .returned (.bool false) ∧ Up w w') := by
  have hto := Lib.hid (fun (W : World) (U : Up w W) => twin_any m A P Q c d W (hm.up U) hA hwf)
  have hat := Lib.hid (fun (W : World) (U : Up w W) => at_any m A P Q c d W (hm.up U) hA hwf)
  have hb0 := Lib.hid (fun (W : World) (U : Up w W) => at_any m 0 P Q c d W (hm.up U) u64_0 hwf)
  have hv := Lib.hid (fun (W : World) => pover_any m.n s a l x y A (sl P m.n c) (sl Q m.n d) W hA)
  have hv0 := Lib.hid (fun (W : World) => pover_any m.n s a l x y 0 (sl P m.n c) (sl Q m.n d) W u64_0)
  rw [ht] at hto
  rw [ovb_0] at hv0
  have q0 : (A == 0) = false := beq_eq_false_iff_ne.2 h0
  rw [hk] at hto
  rw [ho] at hv
  clear ho
  generalize m.att A = t at hat
  generalize m.atl A = lo at hat
  generalize m.atm A = mp at hat
  generalize m.ate A = er at hat
  generalize m.att 0 = t2 at hb0
  generalize m.atl 0 = lo2 at hb0
  generalize m.atm 0 = mp2 at hb0
  generalize m.ate 0 = er2 at hb0
  clear hm hwf hA h0 ht hk
  go_enter Try.func21, Try.ntmps21
  go_wp2_with (fail)
  refine calls_at (fun V1 hV => ?_)
  have kv : Up w V1 := by rw [hV]; (repeat (first | with_reducible exact Up.refl _ | with_reducible refine Up.alloc ?_ _ | with_reducible refine Up.drew ?_ | refine Up.setCell ?_ (by simp <;> omega) _))
  have Xv : Blk V1 (w.heap.size) 31 #[.int .i64 m.n, .slice (some P) m.n c, .slice (some Q) m.n d, .int .i64 s, .int .i64 a, .int .i64 l, .int .i64 x, .int .i64 y] := by rw [hV]; (repeat (first | with_reducible exact Blk.new' _ (by simp) _ _ | with_reducible refine Blk.alloc ?_ _ | with_reducible refine Blk.drew ?_ | refine Blk.far ?_ (by simp <;> omega) _))
  have Uv : Up w V1 := kv
  clear hV kv 
  refine (hto.out V1 Uv).mono ?_
  rintro e w1 ⟨rfl, k1⟩
  have X1 := Xv.up k1
  have U1 := Uv.trans k1
  clear k1 Uv Xv 
  have X1c := X1.cell
  have X1f := X1.frozen
  have X1l := X1.lt
  go_wp2_with (fail)
  refine calls_at (fun V2 hV => ?_)
  have kv : Up w1 V2 := by rw [hV]; (repeat (first | with_reducible exact Up.refl _ | with_reducible refine Up.alloc ?_ _ | with_reducible refine Up.drew ?_ | refine Up.setCell ?_ (by simp <;> omega) _))
  have Xv := X1.up kv
  have Uv : Up w V2 := U1.trans kv
  clear hV kv X1 X1c X1f X1l U1
  refine (hat.out V2 Uv).mono ?_
  rintro e w2 ⟨rfl, k2⟩
  have X2 := Xv.up k2
  have U2 := Uv.trans k2
  clear k2 Uv Xv 
  have X2c := X2.cell
  have X2f := X2.frozen
  have X2l := X2.lt
  go_wp2_with (fail)
  refine calls_at (fun V3 hV => ?_)
  have kv : Up w2 V3 := by rw [hV]; (repeat (first | with_reducible exact Up.refl _ | with_reducible refine Up.alloc ?_ _ | with_reducible refine Up.drew ?_ | refine Up.setCell ?_ (by simp <;> omega) _))
  have Xv := X2.up kv
  have Yv : Blk V3 (w2.heap.size) 55 #[.int .i64 t, .int .i64 lo, .int .u64 mp] := by rw [hV]; (repeat (first | with_reducible exact Blk.new' _ (by simp) _ _ | with_reducible refine Blk.alloc ?_ _ | with_reducible refine Blk.drew ?_ | refine Blk.far ?_ (by simp <;> omega) _))
  have Uv : Up w V3 := U2.trans kv
  clear hV kv X2 X2c X2f X2l U2
  refine (hb0.out V3 Uv).mono ?_
  rintro e w3 ⟨rfl, k3⟩
  have X3 := Xv.up k3
  have Y3 := Yv.up k3
  have U3 := Uv.trans k3
  clear k3 Uv Xv Yv 
  have X3c := X3.cell
  have X3f := X3.frozen
  have X3l := X3.lt
  have Y3c := Y3.cell
  have Y3f := Y3.frozen
  have Y3l := Y3.lt
  go_wp2_with (fail)
  refine calls_at (fun V4 hV => ?_)
  have kv : Up w3 V4 := by rw [hV]; (repeat (first | with_reducible exact Up.refl _ | with_reducible refine Up.alloc ?_ _ | with_reducible refine Up.drew ?_ | refine Up.setCell ?_ (by simp <;> omega) _))
  have Xv := X3.up kv
  have Yv := Y3.up kv
  have Zv : Blk V4 (w3.heap.size) 55 #[.int .i64 t2, .int .i64 lo2, .int .u64 mp2] := by rw [hV]; (repeat (first | with_reducible exact Blk.new' _ (by simp) _ _ | with_reducible refine Blk.alloc ?_ _ | with_reducible refine Blk.drew ?_ | refine Blk.far ?_ (by simp <;> omega) _))
  have Uv : Up w V4 := U3.trans kv
  clear hV kv X3 X3c X3f X3l Y3 Y3c Y3f Y3l U3
  refine (hv.out V4).mono ?_
  rintro e w4 ⟨rfl, k4⟩
  have X4 := Xv.up k4
  have Y4 := Yv.up k4
  have Z4 := Zv.up k4
  have U4 := Uv.trans k4
  clear k4 Uv Xv Yv Zv 
  have X4c := X4.cell
  have X4f := X4.frozen
  have X4l := X4.lt
  have Y4c := Y4.cell
  have Y4f := Y4.frozen
  have Y4l := Y4.lt
  have Z4c := Z4.cell
  have Z4f := Z4.frozen
  have Z4l := Z4.lt
  go_wp2_with (fail)
  refine calls_at (fun V5 hV => ?_)
  have kv : Up w4 V5 := by rw [hV]; (repeat (first | with_reducible exact Up.refl _ | with_reducible refine Up.alloc ?_ _ | with_reducible refine Up.drew ?_ | refine Up.setCell ?_ (by simp <;> omega) _))
  have Xv := X4.up kv
  have Yv := Y4.up kv
  have Zv := Z4.up kv
  have Uv : Up w V5 := U4.trans kv
  clear hV kv X4 X4c X4f X4l Y4 Y4c Y4f Y4l Z4 Z4c Z4f Z4l U4
  refine (hv0.out V5).mono ?_
  rintro e w5 ⟨rfl, k5⟩
  have X5 := Xv.up k5
  have Y5 := Yv.up k5
  have Z5 := Zv.up k5
  have U5 := Uv.trans k5
  clear k5 Uv Xv Yv Zv 
  have X5c := X5.cell
  have X5f := X5.frozen
  have X5l := X5.lt
  have Y5c := Y5.cell
  have Y5f := Y5.frozen
  have Y5l := Y5.lt
  have Z5c := Z5.cell
  have Z5f := Z5.frozen
  have Z5l := Z5.lt
  go_wp2
  go_ret
  refine ⟨rfl, ?_⟩
  (repeat (first | with_reducible exact U5 | with_reducible refine Up.alloc ?_ _ | with_reducible refine Up.drew ?_ | refine Up.setCell ?_ (by simp <;> omega) _))

def AgPost (m : Me) (P Q : Addr) (c d : Nat) (s a l x y A T : Int) (w : World) (e : Ending) (w' : World) : Prop :=
  e = .returned (.func (.func 79) #[] #[bx w.heap.size, bx (w.heap.size + 1), bx (w.heap.size + 1 + 1)]) ∧ (Blk w' w.heap.size 31 (roc m.n (sl P m.n c) (sl Q m.n d) s a l x y) ∧ Blk w' (w.heap.size + 1) 44 #[.int .u64 A] ∧ Blk w' (w.heap.size + 1 + 1) 44 #[.int .u64 T]) ∧ Up w w'
theorem against_any (m : Me) (s a l x y A T : Int) (P Q : Addr) (c d : Nat) (w : World) :
    Calls Try.prog 46 #[rov m.n (sl P m.n c) (sl Q m.n d) s a l x y, .int .u64 A, .int .u64 T] w (AgPost m P Q c d s a l x y A T w) := by
  go_enter Try.func46, Try.ntmps46
  go_wp2
  go_ret
  exact ⟨rfl, ⟨((Blk.new' w rfl _ _).alloc _).alloc _, (Blk.new' _ (by simp) _ _).alloc _, Blk.new' _ (by simp) _ _⟩, (((Up.refl w).alloc _).alloc _).alloc _⟩
set_option maxRecDepth 100000 in
set_option maxHeartbeats 4000000 in
theorem agc_word (m : Me) (s a l x y A T i : Int) (P Q : Addr) (c d Bx Ba Bt : Nat) (w : World) (hm : Sits w m P Q c d) (hwf : m.wf) (hA : U64 A) (hT : U64 T) (hX : Blk w Bx 31 (roc m.n (sl P m.n c) (sl Q m.n d) s a l x y)) (hBa : Blk w Ba 44 #[.int .u64 A]) (hBt : Blk w Bt 44 #[.int .u64 T]) (he : m.getv T i = m.getv A i) (hp : m.getb A i = false) :
    Calls Try.prog 79 #[.int .i64 i, bx Bx, bx Ba, bx Bt] w (fun e w' => e = .returned (.bool true) ∧ Up w w') := by
  have hg := Lib.hid (fun (W : World) (U : Up w W) => get_any m A i P Q c d W (hm.up U) hA hwf)
  have hg2 := Lib.hid (fun (W : World) (U : Up w W) => get_any m T i P Q c d W (hm.up U) hT hwf)
  rw [he] at hg2
  rw [hp] at hg
  generalize m.getv A i = v at hg hg2
  generalize m.gete A i = ge at hg
  generalize m.gete T i = ge2 at hg2
  generalize m.getb T i = pb2 at hg2
  have Xc := hX.cell
  have Xl := hX.lt
  have Ac := hBa.cell
  have Al := hBa.lt
  have Tc := hBt.cell
  have Tl := hBt.lt
  simp only [roc] at Xc
  clear hm hwf hA hT he hp
  go_enter Try.func79, Try.ntmps79
  go_wp2_with (fail)
  refine (hg.out _ (Up.refl _)).mono ?_
  rintro e w1 ⟨rfl, h1⟩
  have X1 := hX.up h1
  have T1 := hBt.up h1
  have X1c := X1.cell
  have X1l := X1.lt
  have T1c := T1.cell
  have T1l := T1.lt
  simp only [roc] at X1c
  clear Xc Xl Ac Al Tc Tl hX hBa hBt
  go_wp2_with (fail)
  refine (hg2.out _ h1).mono ?_
  rintro e w2 ⟨rfl, h2⟩
  clear X1c X1l T1c T1l X1 T1
  go_wp2
  go_ret
  exact ⟨rfl, h1.trans h2⟩

set_option maxRecDepth 100000 in
set_option maxHeartbeats 4000000 in
theorem agc_zero (m : Me) (s a l x y A T i : Int) (P Q : Addr) (c d Bx Ba Bt : Nat) (w : World) (hm : Sits w m P Q c d) (hwf : m.wf) (hA : U64 A) (hT : U64 T) (hX : Blk w Bx 31 (roc m.n (sl P m.n c) (sl Q m.n d) s a l x y)) (hBa : Blk w Ba 44 #[.int .u64 A]) (hBt : Blk w Bt 44 #[.int .u64 T]) (he : m.getv T i = m.getv A i) (hp : m.getb A i = true ∧ m.getv A i = 0) :
    Calls Try.prog 79 #[.int .i64 i, bx Bx, bx Ba, bx Bt] w (fun e w' => e = .returned (.bool true) ∧ Up w w') := by
  have hg := Lib.hid (fun (W : World) (U : Up w W) => get_any m A i P Q c d W (hm.up U) hA hwf)
  have hg2 := Lib.hid (fun (W : World) (U : Up w W) => get_any m T i P Q c d W (hm.up U) hT hwf)
  rw [he] at hg2
  rw [hp.1, hp.2] at hg
  rw [hp.2] at hg2
  generalize m.gete A i = ge at hg
  generalize m.gete T i = ge2 at hg2
  generalize m.getb T i = pb2 at hg2
  have Xc := hX.cell
  have Xl := hX.lt
  have Ac := hBa.cell
  have Al := hBa.lt
  have Tc := hBt.cell
  have Tl := hBt.lt
  simp only [roc] at Xc
  clear hm hwf hA hT he hp
  go_enter Try.func79, Try.ntmps79
  go_wp2_with (fail)
  refine (hg.out _ (Up.refl _)).mono ?_
  rintro e w1 ⟨rfl, h1⟩
  have X1 := hX.up h1
  have T1 := hBt.up h1
  have X1c := X1.cell
  have X1l := X1.lt
  have T1c := T1.cell
  have T1l := T1.lt
  simp only [roc] at X1c
  clear Xc Xl Ac Al Tc Tl hX hBa hBt
  go_wp2_with (fail)
  refine (hg2.out _ h1).mono ?_
  rintro e w2 ⟨rfl, h2⟩
  clear X1c X1l T1c T1l X1 T1
  go_wp2
  go_ret
  exact ⟨rfl, h1.trans h2⟩

theorem agc_any (m : Me) (s a l x y A T i : Int) (P Q : Addr) (c d Bx Ba Bt : Nat) (w : World) (hm : Sits w m P Q c d) (hwf : m.wf) (hA : U64 A) (hT : U64 T) (hX : Blk w Bx 31 (roc m.n (sl P m.n c) (sl Q m.n d) s a l x y)) (hBa : Blk w Ba 44 #[.int .u64 A]) (hBt : Blk w Bt 44 #[.int .u64 T]) (he : m.getv T i = m.getv A i) (hp : m.getb A i = true → m.getv A i = 0) :
    Calls Try.prog 79 #[.int .i64 i, bx Bx, bx Ba, bx Bt] w (fun e w' => e = .returned (.bool true) ∧ Up w w') := by
  by_cases h : m.getb A i = true
  · exact agc_zero m s a l x y A T i P Q c d Bx Ba Bt w hm hwf hA hT hX hBa hBt he ⟨h, hp h⟩
  · exact agc_word m s a l x y A T i P Q c d Bx Ba Bt w hm hwf hA hT hX hBa hBt he (by simpa using h)

def SmRel (n : Nat) (w : World) (i : Value) (wr : World) : Prop := ∃ j : Nat, j ≤ n ∧ i = .int .i64 j ∧ Up w wr
set_option maxRecDepth 100000 in
set_option maxHeartbeats 4000000 in
theorem psame_yes (m : Me) (s a l x y A T : Int) (P Q : Addr) (c d : Nat) (w : World) (hm : Sits w m P Q c d) (hwf : m.wf) (hA : U64 A) (hT : U64 T) (h0 : A ≠ 0) (hN : Nw m A T) (ho : ovb s A = false) (hoT : ovb s T = true) (hf : ∀ i : Nat, (i : Int) < m.atl A → m.getb A i = true → m.getv A i = 0) :
    Calls Try.prog 21 #[rov m.n (sl P m.n c) (sl Q m.n d) s a l x y, .int .u64 A] w (fun e w' => e = .returned (.bool true) ∧ Up w w') := by
  have hto := Lib.hid (fun (W : World) (U : Up w W) => twin_any m A P Q c d W (hm.up U) hA hwf)
  have hat := Lib.hid (fun (W : World) (U : Up w W) => at_any m A P Q c d W (hm.up U) hA hwf)
  have hbt := Lib.hid (fun (W : World) (U : Up w W) => at_any m T P Q c d W (hm.up U) hT hwf)
  have hv := Lib.hid (fun (W : World) => pover_any m.n s a l x y A (sl P m.n c) (sl Q m.n d) W hA)
  have hvt := Lib.hid (fun (W : World) => pover_any m.n s a l x y T (sl P m.n c) (sl Q m.n d) W hT)
  have hag := Lib.hid (fun (W : World) => against_any m s a l x y A T P Q c d W)
  rw [hN.tw, hN.kn] at hto
  rw [ho] at hv
  rw [hoT] at hvt
  rw [hN.at_, hN.t, hN.l, hN.m] at hbt
  have q0 : (A == 0) = false := beq_eq_false_iff_ne.2 h0
  obtain ⟨n, hn⟩ : ∃ n : Nat, m.atl A = n := ⟨(m.atl A).toNat, by have := (kne_inn hN.kn).2; omega⟩
  have hn16 : n ≤ 16 := by have := atl_16 hN.kn; omega
  have hcl := Lib.hid (fun (W : World) (i : Nat) (Bx Ba Bt : Nat) (U : Up w W) (hi : i < n) hX hBa hBt => agc_any m s a l x y A T i P Q c d Bx Ba Bt W (hm.up U) hwf hA hT hX hBa hBt (hN.f i (by omega) (by rw [hn]; omega)) (hf i (by rw [hn]; omega)))
  rw [hn] at hat hbt
  generalize m.att A = t at hat hbt
  generalize m.atm A = mp at hat hbt
  generalize m.ate A = er at hat
  have hne := ne_head t n mp t n mp
  rw [hsame_self] at hne
  clear hm hwf hA hT h0 hN ho hoT hf hn
  go_enter Try.func21, Try.ntmps21
  go_wp2_with (fail)
  refine calls_at (fun V1 hV => ?_)
  have kv : Up w V1 := by rw [hV]; (repeat (first | with_reducible exact Up.refl _ | with_reducible refine Up.alloc ?_ _ | with_reducible refine Up.drew ?_ | refine Up.setCell ?_ (by simp <;> omega) _))
  have Xv : Blk V1 (w.heap.size) 31 #[.int .i64 m.n, .slice (some P) m.n c, .slice (some Q) m.n d, .int .i64 s, .int .i64 a, .int .i64 l, .int .i64 x, .int .i64 y] := by rw [hV]; (repeat (first | with_reducible exact Blk.new' _ (by simp) _ _ | with_reducible refine Blk.alloc ?_ _ | with_reducible refine Blk.drew ?_ | refine Blk.far ?_ (by simp <;> omega) _))
  have Uv : Up w V1 := kv
  clear hV kv 
  refine (hto.out V1 Uv).mono ?_
  rintro e w1 ⟨rfl, k1⟩
  have X1 := Xv.up k1
  have U1 := Uv.trans k1
  clear k1 Uv Xv 
  have X1c := X1.cell
  have X1f := X1.frozen
  have X1l := X1.lt
  go_wp2_with (fail)
  refine calls_at (fun V2 hV => ?_)
  have kv : Up w1 V2 := by rw [hV]; (repeat (first | with_reducible exact Up.refl _ | with_reducible refine Up.alloc ?_ _ | with_reducible refine Up.drew ?_ | refine Up.setCell ?_ (by simp <;> omega) _))
  have Xv := X1.up kv
  have Uv : Up w V2 := U1.trans kv
  clear hV kv X1 X1c X1f X1l U1
  refine (hat.out V2 Uv).mono ?_
  rintro e w2 ⟨rfl, k2⟩
  have X2 := Xv.up k2
  have U2 := Uv.trans k2
  clear k2 Uv Xv 
  have X2c := X2.cell
  have X2f := X2.frozen
  have X2l := X2.lt
  go_wp2_with (fail)
  refine calls_at (fun V3 hV => ?_)
  have kv : Up w2 V3 := by rw [hV]; (repeat (first | with_reducible exact Up.refl _ | with_reducible refine Up.alloc ?_ _ | with_reducible refine Up.drew ?_ | refine Up.setCell ?_ (by simp <;> omega) _))
  have Xv := X2.up kv
  have Yv : Blk V3 (w2.heap.size) 55 #[.int .i64 t, .int .i64 n, .int .u64 mp] := by rw [hV]; (repeat (first | with_reducible exact Blk.new' _ (by simp) _ _ | with_reducible refine Blk.alloc ?_ _ | with_reducible refine Blk.drew ?_ | refine Blk.far ?_ (by simp <;> omega) _))
  have Uv : Up w V3 := U2.trans kv
  clear hV kv X2 X2c X2f X2l U2
  refine (hbt.out V3 Uv).mono ?_
  rintro e w3 ⟨rfl, k3⟩
  have X3 := Xv.up k3
  have Y3 := Yv.up k3
  have U3 := Uv.trans k3
  clear k3 Uv Xv Yv 
  have X3c := X3.cell
  have X3f := X3.frozen
  have X3l := X3.lt
  have Y3c := Y3.cell
  have Y3f := Y3.frozen
  have Y3l := Y3.lt
  go_wp2_with (fail)
  refine calls_at (fun V4 hV => ?_)
  have kv : Up w3 V4 := by rw [hV]; (repeat (first | with_reducible exact Up.refl _ | with_reducible refine Up.alloc ?_ _ | with_reducible refine Up.drew ?_ | refine Up.setCell ?_ (by simp <;> omega) _))
  have Xv := X3.up kv
  have Yv := Y3.up kv
  have Zv : Blk V4 (w3.heap.size) 55 #[.int .i64 t, .int .i64 n, .int .u64 mp] := by rw [hV]; (repeat (first | with_reducible exact Blk.new' _ (by simp) _ _ | with_reducible refine Blk.alloc ?_ _ | with_reducible refine Blk.drew ?_ | refine Blk.far ?_ (by simp <;> omega) _))
  have Uv : Up w V4 := U3.trans kv
  clear hV kv X3 X3c X3f X3l Y3 Y3c Y3f Y3l U3
  refine (hv.out V4).mono ?_
  rintro e w4 ⟨rfl, k4⟩
  have X4 := Xv.up k4
  have Y4 := Yv.up k4
  have Z4 := Zv.up k4
  have U4 := Uv.trans k4
  clear k4 Uv Xv Yv Zv 
  have X4c := X4.cell
  have X4f := X4.frozen
  have X4l := X4.lt
  have Y4c := Y4.cell
  have Y4f := Y4.frozen
  have Y4l := Y4.lt
  have Z4c := Z4.cell
  have Z4f := Z4.frozen
  have Z4l := Z4.lt
  go_wp2_with (fail)
  refine calls_at (fun V5 hV => ?_)
  have kv : Up w4 V5 := by rw [hV]; (repeat (first | with_reducible exact Up.refl _ | with_reducible refine Up.alloc ?_ _ | with_reducible refine Up.drew ?_ | refine Up.setCell ?_ (by simp <;> omega) _))
  have Xv := X4.up kv
  have Yv := Y4.up kv
  have Zv := Z4.up kv
  have Uv : Up w V5 := U4.trans kv
  clear hV kv X4 X4c X4f X4l Y4 Y4c Y4f Y4l Z4 Z4c Z4f Z4l U4
  refine (hvt.out V5).mono ?_
  rintro e w5 ⟨rfl, k5⟩
  have X5 := Xv.up k5
  have Y5 := Yv.up k5
  have Z5 := Zv.up k5
  have U5 := Uv.trans k5
  clear k5 Uv Xv Yv Zv 
  have X5c := X5.cell
  have X5f := X5.frozen
  have X5l := X5.lt
  have Y5c := Y5.cell
  have Y5f := Y5.frozen
  have Y5l := Y5.lt
  have Z5c := Z5.cell
  have Z5f := Z5.frozen
  have Z5l := Z5.lt
  go_wp2_with (fail)
  refine calls_at (fun V6 hV => ?_)
  have kv : Up w5 V6 := by rw [hV]; (repeat (first | with_reducible exact Up.refl _ | with_reducible refine Up.alloc ?_ _ | with_reducible refine Up.drew ?_ | refine Up.setCell ?_ (by simp <;> omega) _))
  have Xv := X5.up kv
  have Yv := Y5.up kv
  have Zv := Z5.up kv
  have Uv : Up w V6 := U5.trans kv
  clear hV kv X5 X5c X5f X5l Y5 Y5c Y5f Y5l Z5 Z5c Z5f Z5l U5
  refine (hag.out V6).mono ?_
  rintro e w6 ⟨rfl, hB, h6⟩
  have U6 := Uv.trans h6
  have Y6 := Yv.up h6
  clear h6 Uv Xv Yv Zv
  have Y6c := Y6.cell
  have Y6l := Y6.lt
  generalize V6.heap.size = g at hB ⊢
  clear hto hat hbt hv hvt hag
  go_wp2_with (fail)
  go_loopw [60] (fun i wr => SmRel n w6 i wr) (fun i _ => n - (intOf i).toNat)
  case atStart => exact ⟨0, Nat.zero_le _, rfl, Up.refl _⟩
  case round =>
    rename World => wb
    obtain ⟨i, hi, rfl, hU⟩ := hrel
    by_cases hlt : i < n
    · have hd : decide ((i : Int) < (n : Int)) = true := decide_eq_true (by omega)
      have hcl := Lib.hid (hcl.out wb i g (g + 1) (g + 1 + 1) (U6.trans hU) hlt (hB.1.up hU) (hB.2.1.up hU) (hB.2.2.up hU))
      go_wp2_with (fail)
      refine hcl.out.mono ?_
      rintro e w7 ⟨rfl, h7⟩
      have U7 := hU.trans h7
      clear hU h7 hcl
      go_wp2
      refine ⟨⟨i + 1, by omega, by go_num, U7⟩, by simp [intOf]; omega⟩
    · have hd : decide ((i : Int) < (n : Int)) = false := decide_eq_false (by omega)
      go_wp2
      go_ret
      exact ⟨rfl, U6.trans hU⟩

set_option maxRecDepth 100000 in
set_option maxHeartbeats 4000000 in
theorem rmade_err (m : Me) (s a l x y A : Int) (P Q : Addr) (c d : Nat) (w : World) (hm : Sits w m P Q c d) (hwf : m.wf) (hA : U64 A) (h0 : A ≠ 0) (hk : m.kne A ≠ 0) :
    Calls Try.prog 17 #[rov m.n (sl P m.n c) (sl Q m.n d) s a l x y, .int .u64 A] w (fun e w' => e = .returned (.bool false) ∧ Up w w') := by
  have hto := Lib.hid (fun (W : World) (U : Up w W) => rtwin_any m A P Q c d W (hm.up U) hA hwf)
  have hv := Lib.hid (fun (W : World) => rover_any m.n s a l x y A (sl P m.n c) (sl Q m.n d) W hA)
  have q0 : (A == 0) = false := beq_eq_false_iff_ne.2 h0
  have q1 : (m.kne A != 0) = true := bne_iff_ne.2 hk
  generalize m.kne A = kn at hto q1
  generalize m.twv A = tv at hto
  clear hm hwf hA h0 hk hv
  go_enter Try.func17, Try.ntmps17
  go_wp2_with (fail)
  refine calls_at (fun V1 hV => ?_)
  have kv : Up w V1 := by rw [hV]; (repeat (first | with_reducible exact Up.refl _ | with_reducible refine Up.alloc ?_ _ | with_reducible refine Up.drew ?_ | refine Up.setCell ?_ (by simp <;> omega) _))
  have Xv : Blk V1 (w.heap.size) 31 #[.int .i64 m.n, .slice (some P) m.n c, .slice (some Q) m.n d, .int .i64 s, .int .i64 a, .int .i64 l, .int .i64 x, .int .i64 y] := by rw [hV]; (repeat (first | with_reducible exact Blk.new' _ (by simp) _ _ | with_reducible refine Blk.alloc ?_ _ | with_reducible refine Blk.drew ?_ | refine Blk.far ?_ (by simp <;> omega) _))
  have Uv : Up w V1 := kv
  clear hV kv 
  refine (hto.out V1 Uv).mono ?_
  rintro e w1 ⟨rfl, k1⟩
  have X1 := Xv.up k1
  have U1 := Uv.trans k1
  clear k1 Uv Xv 
  have X1c := X1.cell
  have X1f := X1.frozen
  have X1l := X1.lt
  go_wp2
  go_ret
  refine ⟨rfl, ?_⟩
  (repeat (first | with_reducible exact U1 | with_reducible refine Up.alloc ?_ _ | with_reducible refine Up.drew ?_ | refine Up.setCell ?_ (by simp <;> omega) _))

set_option maxRecDepth 100000 in
set_option maxHeartbeats 4000000 in
theorem rmade_over (m : Me) (s a l x y A : Int) (P Q : Addr) (c d : Nat) (w : World) (hm : Sits w m P Q c d) (hwf : m.wf) (hA : U64 A) (h0 : A ≠ 0) (hk : m.kne A = 0) (ho : ovb s A = true) :
    Calls Try.prog 17 #[rov m.n (sl P m.n c) (sl Q m.n d) s a l x y, .int .u64 A] w (fun e w' => e = .returned (.bool true) ∧ Up w w') := by
  have hto := Lib.hid (fun (W : World) (U : Up w W) => rtwin_any m A P Q c d W (hm.up U) hA hwf)
  have hv := Lib.hid (fun (W : World) => rover_any m.n s a l x y A (sl P m.n c) (sl Q m.n d) W hA)
  have q0 : (A == 0) = false := beq_eq_false_iff_ne.2 h0
  rw [hk] at hto
  rw [ho] at hv
  generalize m.twv A = tv at hto
  clear hm hwf hA h0 hk ho
  go_enter Try.func17, Try.ntmps17
  go_wp2_with (fail)
  refine calls_at (fun V1 hV => ?_)
  have kv : Up w V1 := by rw [hV]; (repeat (first | with_reducible exact Up.refl _ | with_reducible refine Up.alloc ?_ _ | with_reducible refine Up.drew ?_ | refine Up.setCell ?_ (by simp <;> omega) _))
  have Xv : Blk V1 (w.heap.size) 31 #[.int .i64 m.n, .slice (some P) m.n c, .slice (some Q) m.n d, .int .i64 s, .int .i64 a, .int .i64 l, .int .i64 x, .int .i64 y] := by rw [hV]; (repeat (first | with_reducible exact Blk.new' _ (by simp) _ _ | with_reducible refine Blk.alloc ?_ _ | with_reducible refine Blk.drew ?_ | refine Blk.far ?_ (by simp <;> omega) _))
  have Uv : Up w V1 := kv
  clear hV kv 
  refine (hto.out V1 Uv).mono ?_
  rintro e w1 ⟨rfl, k1⟩
  have X1 := Xv.up k1
  have U1 := Uv.trans k1
  clear k1 Uv Xv 
  have X1c := X1.cell
  have X1f := X1.frozen
  have X1l := X1.lt
  go_wp2_with (fail)
  refine calls_at (fun V2 hV => ?_)
  have kv : Up w1 V2 := by rw [hV]; (repeat (first | with_reducible exact Up.refl _ | with_reducible refine Up.alloc ?_ _ | with_reducible refine Up.drew ?_ | refine Up.setCell ?_ (by simp <;> omega) _))
  have Xv := X1.up kv
  have Uv : Up w V2 := U1.trans kv
  clear hV kv X1 X1c X1f X1l U1
  refine (hv.out V2).mono ?_
  rintro e w2 ⟨rfl, k2⟩
  have X2 := Xv.up k2
  have U2 := Uv.trans k2
  clear k2 Uv Xv 
  have X2c := X2.cell
  have X2f := X2.frozen
  have X2l := X2.lt
  go_wp2
  go_ret
  refine ⟨rfl, ?_⟩
  (repeat (first | with_reducible exact U2 | with_reducible refine Up.alloc ?_ _ | with_reducible refine Up.drew ?_ | refine Up.setCell ?_ (by simp <;> omega) _))

set_option maxRecDepth 100000 in
set_option maxHeartbeats 4000000 in
theorem rmade_twin (m : Me) (s a l x y A : Int) (P Q : Addr) (c d : Nat) (w : World) (hm : Sits w m P Q c d) (hwf : m.wf) (hA : U64 A) (h0 : A ≠ 0) (hk : m.kne A = 0) (ho : ovb s A = false) (ht : m.twv A ≠ 0) :
    Calls Try.prog 17 #[rov m.n (sl P m.n c) (sl Q m.n d) s a l x y, .int .u64 A] w (fun e w' => e = .returned (.bool true) ∧ Up w w') := by
  have hto := Lib.hid (fun (W : World) (U : Up w W) => rtwin_any m A P Q c d W (hm.up U) hA hwf)
  have hv := Lib.hid (fun (W : World) => rover_any m.n s a l x y A (sl P m.n c) (sl Q m.n d) W hA)
  have q0 : (A == 0) = false := beq_eq_false_iff_ne.2 h0
  have q1 : (m.twv A != 0) = true := bne_iff_ne.2 ht
  rw [hk] at hto
  rw [ho] at hv
  generalize m.twv A = tv at hto q1
  clear hm hwf hA h0 hk ho ht
  go_enter Try.func17, Try.ntmps17
  go_wp2_with (fail)
  refine calls_at (fun V1 hV => ?_)
  have kv : Up w V1 := by rw [hV]; (repeat (first | with_reducible exact Up.refl _ | with_reducible refine Up.alloc ?_ _ | with_reducible refine Up.drew ?_ | refine Up.setCell ?_ (by simp <;> omega) _))
  have Xv : Blk V1 (w.heap.size) 31 #[.int .i64 m.n, .slice (some P) m.n c, .slice (some Q) m.n d, .int .i64 s, .int .i64 a, .int .i64 l, .int .i64 x, .int .i64 y] := by rw [hV]; (repeat (first | with_reducible exact Blk.new' _ (by simp) _ _ | with_reducible refine Blk.alloc ?_ _ | with_reducible refine Blk.drew ?_ | refine Blk.far ?_ (by simp <;> omega) _))
  have Uv : Up w V1 := kv
  clear hV kv 
  refine (hto.out V1 Uv).mono ?_
  rintro e w1 ⟨rfl, k1⟩
  have X1 := Xv.up k1
  have U1 := Uv.trans k1
  clear k1 Uv Xv 
  have X1c := X1.cell
  have X1f := X1.frozen
  have X1l := X1.lt
  go_wp2_with (fail)
  refine calls_at (fun V2 hV => ?_)
  have kv : Up w1 V2 := by rw [hV]; (repeat (first | with_reducible exact Up.refl _ | with_reducible refine Up.alloc ?_ _ | with_reducible refine Up.drew ?_ | refine Up.setCell ?_ (by simp <;> omega) _))
  have Xv := X1.up kv
  have Uv : Up w V2 := U1.trans kv
  clear hV kv X1 X1c X1f X1l U1
  refine (hv.out V2).mono ?_
  rintro e w2 ⟨rfl, k2⟩
  have X2 := Xv.up k2
  have U2 := Uv.trans k2
  clear k2 Uv Xv 
  have X2c := X2.cell
  have X2f := X2.frozen
  have X2l := X2.lt
  go_wp2
  go_ret
  refine ⟨rfl, ?_⟩
  (repeat (first | with_reducible exact U2 | with_reducible refine Up.alloc ?_ _ | with_reducible refine Up.drew ?_ | refine Up.setCell ?_ (by simp <;> omega) _))

set_option maxRecDepth 100000 in
set_option maxHeartbeats 4000000 in
theorem rmade_none (m : Me) (s a l x y A : Int) (P Q : Addr) (c d : Nat) (w : World) (hm : Sits w m P Q c d) (hwf : m.wf) (hA : U64 A) (h0 : A ≠ 0) (hk : m.kne A = 0) (ho : ovb s A = false) (ht : m.twv A = 0) :
    Calls Try.prog 17 #[rov m.n (sl P m.n c) (sl Q m.n d) s a l x y, .int .u64 A] w (fun e w' => e = .returned (.bool false) ∧ Up w w') := by
  have hto := Lib.hid (fun (W : World) (U : Up w W) => rtwin_any m A P Q c d W (hm.up U) hA hwf)
  have hv := Lib.hid (fun (W : World) => rover_any m.n s a l x y A (sl P m.n c) (sl Q m.n d) W hA)
  have q0 : (A == 0) = false := beq_eq_false_iff_ne.2 h0
  rw [hk, ht] at hto
  rw [ho] at hv
  clear hm hwf hA h0 hk ho ht
  go_enter Try.func17, Try.ntmps17
  go_wp2_with (fail)
  refine calls_at (fun V1 hV => ?_)
  have kv : Up w V1 := by rw [hV]; (repeat (first | with_reducible exact Up.refl _ | with_reducible refine Up.alloc ?_ _ | with_reducible refine Up.drew ?_ | refine Up.setCell ?_ (by simp <;> omega) _))
  have Xv : Blk V1 (w.heap.size) 31 #[.int .i64 m.n, .slice (some P) m.n c, .slice (some Q) m.n d, .int .i64 s, .int .i64 a, .int .i64 l, .int .i64 x, .int .i64 y] := by rw [hV]; (repeat (first | with_reducible exact Blk.new' _ (by simp) _ _ | with_reducible refine Blk.alloc ?_ _ | with_reducible refine Blk.drew ?_ | refine Blk.far ?_ (by simp <;> omega) _))
  have Uv : Up w V1 := kv
  clear hV kv 
  refine (hto.out V1 Uv).mono ?_
  rintro e w1 ⟨rfl, k1⟩
  have X1 := Xv.up k1
  have U1 := Uv.trans k1
  clear k1 Uv Xv 
  have X1c := X1.cell
  have X1f := X1.frozen
  have X1l := X1.lt
  go_wp2_with (fail)
  refine calls_at (fun V2 hV => ?_)
  have kv : Up w1 V2 := by rw [hV]; (repeat (first | with_reducible exact Up.refl _ | with_reducible refine Up.alloc ?_ _ | with_reducible refine Up.drew ?_ | refine Up.setCell ?_ (by simp <;> omega) _))
  have Xv := X1.up kv
  have Uv : Up w V2 := U1.trans kv
  clear hV kv X1 X1c X1f X1l U1
  refine (hv.out V2).mono ?_
  rintro e w2 ⟨rfl, k2⟩
  have X2 := Xv.up k2
  have U2 := Uv.trans k2
  clear k2 Uv Xv 
  have X2c := X2.cell
  have X2f := X2.frozen
  have X2l := X2.lt
  go_wp2
  go_ret
  refine ⟨rfl, ?_⟩
  (repeat (first | with_reducible exact U2 | with_reducible refine Up.alloc ?_ _ | with_reducible refine Up.drew ?_ | refine Up.setCell ?_ (by simp <;> omega) _))

/-- Has it a twin, or is it over there? -/
def mde (m : Me) (s A : Int) : Bool := decide (m.kne A = 0) && (ovb s A || decide (m.twv A ≠ 0))
theorem rmade_any (m : Me) (s a l x y A : Int) (P Q : Addr) (c d : Nat) (w : World) (hm : Sits w m P Q c d) (hwf : m.wf) (hA : U64 A) (h0 : A ≠ 0) :
    Calls Try.prog 17 #[rov m.n (sl P m.n c) (sl Q m.n d) s a l x y, .int .u64 A] w (fun e w' => e = .returned (.bool (mde m s A)) ∧ Up w w') := by
  unfold mde
  by_cases hk : m.kne A = 0
  · rw [decide_eq_true hk]
    by_cases ho : ovb s A = true
    · rw [ho]
      exact rmade_over m s a l x y A P Q c d w hm hwf hA h0 hk ho
    · have ho' : ovb s A = false := by simpa using ho
      rw [ho']
      by_cases ht : m.twv A = 0
      · rw [decide_eq_false (fun q => q ht)]
        exact rmade_none m s a l x y A P Q c d w hm hwf hA h0 hk ho' ht
      · rw [decide_eq_true ht]
        exact rmade_twin m s a l x y A P Q c d w hm hwf hA h0 hk ho' ht
  · rw [decide_eq_false hk]
    exact rmade_err m s a l x y A P Q c d w hm hwf hA h0 hk

set_option maxRecDepth 100000 in
set_option maxHeartbeats 4000000 in
theorem rsame_err (m : Me) (s a l x y A : Int) (P Q : Addr) (c d : Nat) (w : World) (hm : Sits w m P Q c d) (hwf : m.wf) (hA : U64 A) (h0 : A ≠ 0) (hmd : mde m s A = false) (hk : m.kne A ≠ 0) (ho : ovb s A = false) :
    Calls Try.prog 22 #[rov m.n (sl P m.n c) (sl Q m.n d) s a l x y, .int .u64 A] w (fun e w' => e = .returned (.bool false) ∧ Up w w') := by
  have hto := Lib.hid (fun (W : World) (U : Up w W) => rtwin_any m A P Q c d W (hm.up U) hA hwf)
  have hv := Lib.hid (fun (W : World) => rover_any m.n s a l x y A (sl P m.n c) (sl Q m.n d) W hA)
  have hv0 := Lib.hid (fun (W : World) => rover_any m.n s a l x y 0 (sl P m.n c) (sl Q m.n d) W u64_0)
  rw [ovb_0] at hv0
  have hmd := Lib.hid (show ∀ (W : World) (U : Up w W), Calls Try.prog 17 #[rov m.n (sl P m.n c) (sl Q m.n d) s a l x y, .int .u64 A] W (fun e w' => e = .returned (.bool false) ∧ Up W w') from fun W U => by
    have q := rmade_any m s a l x y A P Q c d W (hm.up U) hwf hA h0
    rw [hmd] at q
    exact q)
  have q0 : (A == 0) = false := beq_eq_false_iff_ne.2 h0
  have q1 : (m.kne A != 0) = true := bne_iff_ne.2 hk
  have ht : m.twv A = 0 := if_neg hk
  rw [ht] at hto
  rw [ho] at hv
  generalize m.kne A = kn at hto q1
  clear hm hwf hA h0 hk ho ht
  go_enter Try.func22, Try.ntmps22
  go_wp2_with (fail)
  refine calls_at (fun V1 hV => ?_)
  have kv : Up w V1 := by rw [hV]; (repeat (first | with_reducible exact Up.refl _ | with_reducible refine Up.alloc ?_ _ | with_reducible refine Up.drew ?_ | refine Up.setCell ?_ (by simp <;> omega) _))
  have Xv : Blk V1 (w.heap.size) 31 #[.int .i64 m.n, .slice (some P) m.n c, .slice (some Q) m.n d, .int .i64 s, .int .i64 a, .int .i64 l, .int .i64 x, .int .i64 y] := by rw [hV]; (repeat (first | with_reducible exact Blk.new' _ (by simp) _ _ | with_reducible refine Blk.alloc ?_ _ | with_reducible refine Blk.drew ?_ | refine Blk.far ?_ (by simp <;> omega) _))
  have Uv : Up w V1 := kv
  clear hV kv 
  refine (hv.out V1).mono ?_
  rintro e w1 ⟨rfl, k1⟩
  have X1 := Xv.up k1
  have U1 := Uv.trans k1
  clear k1 Uv Xv 
  have X1c := X1.cell
  have X1f := X1.frozen
  have X1l := X1.lt
  go_wp2_with (fail)
  refine calls_at (fun V2 hV => ?_)
  have kv : Up w1 V2 := by rw [hV]; (repeat (first | with_reducible exact Up.refl _ | with_reducible refine Up.alloc ?_ _ | with_reducible refine Up.drew ?_ | refine Up.setCell ?_ (by simp <;> omega) _))
  have Xv := X1.up kv
  have Uv : Up w V2 := U1.trans kv
  clear hV kv X1 X1c X1f X1l U1
  refine (hto.out V2 Uv).mono ?_
  rintro e w2 ⟨rfl, k2⟩
  have X2 := Xv.up k2
  have U2 := Uv.trans k2
  clear k2 Uv Xv 
  have X2c := X2.cell
  have X2f := X2.frozen
  have X2l := X2.lt
  go_wp2_with (fail)
  refine calls_at (fun V3 hV => ?_)
  have kv : Up w2 V3 := by rw [hV]; (repeat (first | with_reducible exact Up.refl _ | with_reducible refine Up.alloc ?_ _ | with_reducible refine Up.drew ?_ | refine Up.setCell ?_ (by simp <;> omega) _))
  have Xv := X2.up kv
  have Uv : Up w V3 := U2.trans kv
  clear hV kv X2 X2c X2f X2l U2
  refine (hv0.out V3).mono ?_
  rintro e w3 ⟨rfl, k3⟩
  have X3 := Xv.up k3
  have U3 := Uv.trans k3
  clear k3 Uv Xv 
  have X3c := X3.cell
  have X3f := X3.frozen
  have X3l := X3.lt
  go_wp2
  go_ret
  refine ⟨rfl, ?_⟩
  (repeat (first | with_reducible exact U3 | with_reducible refine Up.alloc ?_ _ | with_reducible refine Up.drew ?_ | refine Up.setCell ?_ (by simp <;> omega) _))

set_option maxRecDepth 100000 in
set_option maxHeartbeats 4000000 in
theorem rsame_erro (m : Me) (s a l x y A : Int) (P Q : Addr) (c d : Nat) (w : World) (hm : Sits w m P Q c d) (hwf : m.wf) (hA : U64 A) (h0 : A ≠ 0) (hmd : mde m s A = false) (hk : m.kne A ≠ 0) (ho : ovb s A = true) :
    Calls Try.prog 22 #[rov m.n (sl P m.n c) (sl Q m.n d) s a l x y, .int .u64 A] w (fun e w' => e = .returned (.bool false) ∧ Up w w') := by
  have hto := Lib.hid (fun (W : World) (U : Up w W) => rtwin_any m A P Q c d W (hm.up U) hA hwf)
  have hv := Lib.hid (fun (W : World) => rover_any m.n s a l x y A (sl P m.n c) (sl Q m.n d) W hA)
  have hv0 := Lib.hid (fun (W : World) => rover_any m.n s a l x y 0 (sl P m.n c) (sl Q m.n d) W u64_0)
  rw [ovb_0] at hv0
  have hmd := Lib.hid (show ∀ (W : World) (U : Up w W), Calls Try.prog 17 #[rov m.n (sl P m.n c) (sl Q m.n d) s a l x y, .int .u64 A] W (fun e w' => e = .returned (.bool false) ∧ Up W w') from fun W U => by
    have q := rmade_any m s a l x y A P Q c d W (hm.up U) hwf hA h0
    rw [hmd] at q
    exact q)
  have q0 : (A == 0) = false := beq_eq_false_iff_ne.2 h0
  have q1 : (m.kne A != 0) = true := bne_iff_ne.2 hk
  have ht : m.twv A = 0 := if_neg hk
  rw [ht] at hto
  rw [ho] at hv
  generalize m.kne A = kn at hto q1
  clear hm hwf hA h0 hk ho ht
  go_enter Try.func22, Try.ntmps22
  go_wp2_with (fail)
  refine calls_at (fun V1 hV => ?_)
  have kv : Up w V1 := by rw [hV]; (repeat (first | with_reducible exact Up.refl _ | with_reducible refine Up.alloc ?_ _ | with_reducible refine Up.drew ?_ | refine Up.setCell ?_ (by simp <;> omega) _))
  have Xv : Blk V1 (w.heap.size) 31 #[.int .i64 m.n, .slice (some P) m.n c, .slice (some Q) m.n d, .int .i64 s, .int .i64 a, .int .i64 l, .int .i64 x, .int .i64 y] := by rw [hV]; (repeat (first | with_reducible exact Blk.new' _ (by simp) _ _ | with_reducible refine Blk.alloc ?_ _ | with_reducible refine Blk.drew ?_ | refine Blk.far ?_ (by simp <;> omega) _))
  have Uv : Up w V1 := kv
  clear hV kv 
  refine (hv.out V1).mono ?_
  rintro e w1 ⟨rfl, k1⟩
  have X1 := Xv.up k1
  have U1 := Uv.trans k1
  clear k1 Uv Xv 
  have X1c := X1.cell
  have X1f := X1.frozen
  have X1l := X1.lt
  go_wp2_with (fail)
  refine calls_at (fun V2 hV => ?_)
  have kv : Up w1 V2 := by rw [hV]; (repeat (first | with_reducible exact Up.refl _ | with_reducible refine Up.alloc ?_ _ | with_reducible refine Up.drew ?_ | refine Up.setCell ?_ (by simp <;> omega) _))
  have Xv := X1.up kv
  have Uv : Up w V2 := U1.trans kv
  clear hV kv X1 X1c X1f X1l U1
  refine (hmd.out V2 Uv).mono ?_
  rintro e w2 ⟨rfl, k2⟩
  have X2 := Xv.up k2
  have U2 := Uv.trans k2
  clear k2 Uv Xv 
  have X2c := X2.cell
  have X2f := X2.frozen
  have X2l := X2.lt
  go_wp2_with (fail)
  refine calls_at (fun V3 hV => ?_)
  have kv : Up w2 V3 := by rw [hV]; (repeat (first | with_reducible exact Up.refl _ | with_reducible refine Up.alloc ?_ _ | with_reducible refine Up.drew ?_ | refine Up.setCell ?_ (by simp <;> omega) _))
  have Xv := X2.up kv
  have Uv : Up w V3 := U2.trans kv
  clear hV kv X2 X2c X2f X2l U2
  refine (hto.out V3 Uv).mono ?_
  rintro e w3 ⟨rfl, k3⟩
  have X3 := Xv.up k3
  have U3 := Uv.trans k3
  clear k3 Uv Xv 
  have X3c := X3.cell
  have X3f := X3.frozen
  have X3l := X3.lt
  go_wp2_with (fail)
  refine calls_at (fun V4 hV => ?_)
  have kv : Up w3 V4 := by rw [hV]; (repeat (first | with_reducible exact Up.refl _ | with_reducible refine Up.alloc ?_ _ | with_reducible refine Up.drew ?_ | refine Up.setCell ?_ (by simp <;> omega) _))
  have Xv := X3.up kv
  have Uv : Up w V4 := U3.trans kv
  clear hV kv X3 X3c X3f X3l U3
  refine (hv0.out V4).mono ?_
  rintro e w4 ⟨rfl, k4⟩
  have X4 := Xv.up k4
  have U4 := Uv.trans k4
  clear k4 Uv Xv 
  have X4c := X4.cell
  have X4f := X4.frozen
  have X4l := X4.lt
  go_wp2
  go_ret
  refine ⟨rfl, ?_⟩
  (repeat (first | with_reducible exact U4 | with_reducible refine Up.alloc ?_ _ | with_reducible refine Up.drew ?_ | refine Up.setCell ?_ (by simp <;> omega) _))

set_option maxRecDepth 100000 in
set_option maxHeartbeats 4000000 in
theorem rsame_none (m : Me) (s a l x y A : Int) (P Q : Addr) (c d : Nat) (w : World) (hm : Sits w m P Q c d) (hwf : m.wf) (hA : U64 A) (h0 : A ≠ 0) (hmd : mde m s A = false) (hk : m.kne A = 0) (ho : ovb s A = false) (ht : m.twv A = 0) :
    Calls Try.prog 22 #[rov m.n (sl P m.n c) (sl Q m.n d) s a l x y, .int .u64 A] w (fun e w' => e = .returned (.bool false) ∧ Up w w') := by
  have hto := Lib.hid (fun (W : World) (U : Up w W) => rtwin_any m A P Q c d W (hm.up U) hA hwf)
  have hv := Lib.hid (fun (W : World) => rover_any m.n s a l x y A (sl P m.n c) (sl Q m.n d) W hA)
  have hv0 := Lib.hid (fun (W : World) => rover_any m.n s a l x y 0 (sl P m.n c) (sl Q m.n d) W u64_0)
  rw [ovb_0] at hv0
  have hmd := Lib.hid (show ∀ (W : World) (U : Up w W), Calls Try.prog 17 #[rov m.n (sl P m.n c) (sl Q m.n d) s a l x y, .int .u64 A] W (fun e w' => e = .returned (.bool false) ∧ Up W w') from fun W U => by
    have q := rmade_any m s a l x y A P Q c d W (hm.up U) hwf hA h0
    rw [hmd] at q
    exact q)
  have q0 : (A == 0) = false := beq_eq_false_iff_ne.2 h0
  rw [hk, ht] at hto
  rw [ho] at hv
  clear hm hwf hA h0 hk ho ht
  go_enter Try.func22, Try.ntmps22
  go_wp2_with (fail)
  refine calls_at (fun V1 hV => ?_)
  have kv : Up w V1 := by rw [hV]; (repeat (first | with_reducible exact Up.refl _ | with_reducible refine Up.alloc ?_ _ | with_reducible refine Up.drew ?_ | refine Up.setCell ?_ (by simp <;> omega) _))
  have Xv : Blk V1 (w.heap.size) 31 #[.int .i64 m.n, .slice (some P) m.n c, .slice (some Q) m.n d, .int .i64 s, .int .i64 a, .int .i64 l, .int .i64 x, .int .i64 y] := by rw [hV]; (repeat (first | with_reducible exact Blk.new' _ (by simp) _ _ | with_reducible refine Blk.alloc ?_ _ | with_reducible refine Blk.drew ?_ | refine Blk.far ?_ (by simp <;> omega) _))
  have Uv : Up w V1 := kv
  clear hV kv 
  refine (hv.out V1).mono ?_
  rintro e w1 ⟨rfl, k1⟩
  have X1 := Xv.up k1
  have U1 := Uv.trans k1
  clear k1 Uv Xv 
  have X1c := X1.cell
  have X1f := X1.frozen
  have X1l := X1.lt
  go_wp2_with (fail)
  refine calls_at (fun V2 hV => ?_)
  have kv : Up w1 V2 := by rw [hV]; (repeat (first | with_reducible exact Up.refl _ | with_reducible refine Up.alloc ?_ _ | with_reducible refine Up.drew ?_ | refine Up.setCell ?_ (by simp <;> omega) _))
  have Xv := X1.up kv
  have Uv : Up w V2 := U1.trans kv
  clear hV kv X1 X1c X1f X1l U1
  refine (hto.out V2 Uv).mono ?_
  rintro e w2 ⟨rfl, k2⟩
  have X2 := Xv.up k2
  have U2 := Uv.trans k2
  clear k2 Uv Xv 
  have X2c := X2.cell
  have X2f := X2.frozen
  have X2l := X2.lt
  go_wp2_with (fail)
  refine calls_at (fun V3 hV => ?_)
  have kv : Up w2 V3 := by rw [hV]; (repeat (first | with_reducible exact Up.refl _ | with_reducible refine Up.alloc ?_ _ | with_reducible refine Up.drew ?_ | refine Up.setCell ?_ (by simp <;> omega) _))
  have Xv := X2.up kv
  have Uv : Up w V3 := U2.trans kv
  clear hV kv X2 X2c X2f X2l U2
  refine (hv0.out V3).mono ?_
  rintro e w3 ⟨rfl, k3⟩
  have X3 := Xv.up k3
  have U3 := Uv.trans k3
  clear k3 Uv Xv 
  have X3c := X3.cell
  have X3f := X3.frozen
  have X3l := X3.lt
  go_wp2
  go_ret
  refine ⟨rfl, ?_⟩
  (repeat (first | with_reducible exact U3 | with_reducible refine Up.alloc ?_ _ | with_reducible refine Up.drew ?_ | refine Up.setCell ?_ (by simp <;> omega) _))

theorem mde_no {m : Me} {s A : Int} (h : mde m s A = false) : m.twv A = 0 ∧ (m.kne A ≠ 0 ∨ (m.kne A = 0 ∧ ovb s A = false)) := by
  unfold mde at h
  by_cases hk : m.kne A = 0
  · rw [decide_eq_true hk, Bool.true_and, Bool.or_eq_false_iff] at h
    have := of_decide_eq_false h.2
    exact ⟨by omega, .inr ⟨hk, h.1⟩⟩
  · exact ⟨if_neg hk, .inl hk⟩
theorem rsame_no (m : Me) (s a l x y A : Int) (P Q : Addr) (c d : Nat) (w : World) (hm : Sits w m P Q c d) (hwf : m.wf) (hA : U64 A) (h0 : A ≠ 0) (hmd : mde m s A = false) :
    Calls Try.prog 22 #[rov m.n (sl P m.n c) (sl Q m.n d) s a l x y, .int .u64 A] w (fun e w' => e = .returned (.bool false) ∧ Up w w') := by
  obtain ⟨ht, h | ⟨hk, ho⟩⟩ := mde_no hmd
  · by_cases ho : ovb s A = true
    · exact rsame_erro m s a l x y A P Q c d w hm hwf hA h0 hmd h ho
    · exact rsame_err m s a l x y A P Q c d w hm hwf hA h0 hmd h (by simpa using ho)
  · exact rsame_none m s a l x y A P Q c d w hm hwf hA h0 hmd hk ho ht
theorem psame_no (m : Me) (s a l x y A : Int) (P Q : Addr) (c d : Nat) (w : World) (hm : Sits w m P Q c d) (hwf : m.wf) (hA : U64 A) (h0 : A ≠ 0) (hmd : mde m s A = false) :
    Calls Try.prog 21 #[rov m.n (sl P m.n c) (sl Q m.n d) s a l x y, .int .u64 A] w (fun e w' => e = .returned (.bool false) ∧ Up w w') := by
  obtain ⟨ht, h | ⟨hk, ho⟩⟩ := mde_no hmd
  · exact psame_err m s a l x y A P Q c d w hm hwf hA h0 ht h
  · exact psame_none m s a l x y A P Q c d w hm hwf hA h0 ht hk ho
end Go.Proofs.Ytgcpkgogjcgfbaa
namespace Go.Proofs.Ytgcpkgogjcgfbaa
open Go.ChangeShapes Go.WideShapes Go.ChangeAt Go.RowKit
set_option linter.unusedVariables false
set_option linter.unusedSimpArgs false

/-- A room with memory, an address and an error. -/
def RtPost (w : World) (m : Me) (s a l x y b er : Int) (e : Ending) (w' : World) : Prop :=
  ∃ (P' Q' : Addr) (c' d' : Nat), e = .returned (.tuple #[rov m.n (sl P' m.n c') (sl Q' m.n d') s a l x y, .int .u64 b, .int .i64 er]) ∧ Sits w' m P' Q' c' d' ∧ Up w w'
set_option maxRecDepth 100000 in
set_option maxHeartbeats 4000000 in
theorem rto_err (m : Me) (s a l x y A : Int) (P Q : Addr) (c d : Nat) (w : World) (hm : Sits w m P Q c d) (hwf : m.wf) (hA : U64 A) (h0 : A ≠ 0) (hk : m.kne A ≠ 0) :
    Calls Try.prog 20 #[rov m.n (sl P m.n c) (sl Q m.n d) s a l x y, .int .u64 A] w (RtPost w m s a l x y 0 (m.kne A)) := by
  have hto := Lib.hid (fun (W : World) (U : Up w W) => rtwin_any m A P Q c d W (hm.up U) hA hwf)
  have HM := Lib.hid hm
  have q0 : (A == 0) = false := beq_eq_false_iff_ne.2 h0
  have q1 : (m.kne A != 0) = true := bne_iff_ne.2 hk
  generalize m.kne A = kn at hto q1 ⊢
  generalize m.twv A = tv at hto
  clear hm hwf hA h0 hk
  go_enter Try.func20, Try.ntmps20
  go_wp2_with (fail)
  refine calls_at (fun V1 hV => ?_)
  have kv : Up w V1 := by rw [hV]; (repeat (first | with_reducible exact Up.refl _ | with_reducible refine Up.alloc ?_ _ | with_reducible refine Up.drew ?_ | refine Up.setCell ?_ (by simp <;> omega) _))
  have Xv : Blk V1 (w.heap.size) 31 #[.int .i64 m.n, .slice (some P) m.n c, .slice (some Q) m.n d, .int .i64 s, .int .i64 a, .int .i64 l, .int .i64 x, .int .i64 y] := by rw [hV]; (repeat (first | with_reducible exact Blk.new' _ (by simp) _ _ | with_reducible refine Blk.alloc ?_ _ | with_reducible refine Blk.drew ?_ | refine Blk.far ?_ (by simp <;> omega) _))
  have Zv : Blk V1 (w.heap.size + 1) 31 #[.int .i64 0, .slice none 0 0, .slice none 0 0, .int .i64 0, .int .i64 0, .int .i64 0, .int .i64 0, .int .i64 0] := by rw [hV]; (repeat (first | with_reducible exact Blk.new' _ (by simp) _ _ | with_reducible refine Blk.alloc ?_ _ | with_reducible refine Blk.drew ?_ | refine Blk.far ?_ (by simp <;> omega) _))
  have Uv : Up w V1 := kv
  clear hV kv 
  refine (hto.out V1 Uv).mono ?_
  rintro e w1 ⟨rfl, k1⟩
  have X1 := Xv.up k1
  have Z1 := Zv.up k1
  have U1 := Uv.trans k1
  clear k1 Uv Xv Zv 
  have X1c := X1.cell
  have X1f := X1.frozen
  have X1l := X1.lt
  have Z1c := Z1.cell
  have Z1f := Z1.frozen
  have Z1l := Z1.lt
  go_wp2_with (fail)
  refine bodyPost_ret (ret_room3 rfl _ _ _ m.n s a l x y (sl P m.n c) (sl Q m.n d) _ _ rfl (Z1.set8 (.int .i64 m.n) (sl P m.n c) (sl Q m.n d) (.int .i64 s) (.int .i64 a) (.int .i64 l) (.int .i64 x) (.int .i64 y)) rfl rfl) rfl ?_
  exact ⟨P, Q, c, d, rfl, (HM.out.up U1).far8 Z1 _ _ _ _ _ _ _ _, U1.set8 (by omega) _ _ _ _ _ _ _ _⟩

set_option maxRecDepth 100000 in
set_option maxHeartbeats 4000000 in
theorem rto_full (m : Me) (s a l x y A : Int) (P Q : Addr) (c d : Nat) (w : World) (hm : Sits w m P Q c d) (hwf : m.wf) (hA : U64 A) (h0 : A ≠ 0) (hk : m.kne A = 0) (ho : ovb s A = false) (ht : m.twv A = 0) (hr : rgt s a l) (hf : l - a < m.wn A) :
    Calls Try.prog 20 #[rov m.n (sl P m.n c) (sl Q m.n d) s a l x y, .int .u64 A] w (RtPost w m s a l x y 0 4) := by
  have hto := Lib.hid (fun (W : World) (U : Up w W) => rtwin_any m A P Q c d W (hm.up U) hA hwf)
  have HM := Lib.hid hm
  have q0 : (A == 0) = false := beq_eq_false_iff_ne.2 h0
  have hv := Lib.hid (fun (W : World) => rover_any m.n s a l x y A (sl P m.n c) (sl Q m.n d) W hA)
  have hv0 := Lib.hid (fun (W : World) => rover_any m.n s a l x y 0 (sl P m.n c) (sl Q m.n d) W u64_0)
  have hat := Lib.hid (fun (W : World) (U : Up w W) => rat_any m A P Q c d W (hm.up U) hA hwf)
  obtain ⟨k1, k2, k3, k4, k5⟩ := kne_wdn hk
  have hwd := Lib.hid (fun (W : World) => rhwords_any (m.att A) (m.atl A) (m.atm A) (atm_nn m A) k2 W)
  rw [k3] at hwd
  rw [hk, ht] at hto
  rw [ho] at hv
  rw [ovb_0] at hv0
  rw [k1] at hat
  have htk := Lib.hid (fun (W : World) => rtake_full s a l (m.wn A) hr (by omega) hf W)
  generalize m.wn A = n at hwd htk k4 k5
  generalize m.att A = t at hat hwd
  generalize m.atl A = k at hat hwd
  generalize m.atm A = mp at hat hwd
  clear hm hwf hA h0 hk ho ht hr hf k1 k2 k3
  go_enter Try.func20, Try.ntmps20
  go_wp2_with (fail)
  refine calls_at (fun V1 hV => ?_)
  have kv : Up w V1 := by rw [hV]; (repeat (first | with_reducible exact Up.refl _ | with_reducible refine Up.alloc ?_ _ | with_reducible refine Up.drew ?_ | refine Up.setCell ?_ (by simp <;> omega) _))
  have Xv : Blk V1 (w.heap.size) 31 #[.int .i64 m.n, .slice (some P) m.n c, .slice (some Q) m.n d, .int .i64 s, .int .i64 a, .int .i64 l, .int .i64 x, .int .i64 y] := by rw [hV]; (repeat (first | with_reducible exact Blk.new' _ (by simp) _ _ | with_reducible refine Blk.alloc ?_ _ | with_reducible refine Blk.drew ?_ | refine Blk.far ?_ (by simp <;> omega) _))
  have Zv : Blk V1 (w.heap.size + 1) 31 #[.int .i64 0, .slice none 0 0, .slice none 0 0, .int .i64 0, .int .i64 0, .int .i64 0, .int .i64 0, .int .i64 0] := by rw [hV]; (repeat (first | with_reducible exact Blk.new' _ (by simp) _ _ | with_reducible refine Blk.alloc ?_ _ | with_reducible refine Blk.drew ?_ | refine Blk.far ?_ (by simp <;> omega) _))
  have Uv : Up w V1 := kv
  clear hV kv 
  refine (hto.out V1 Uv).mono ?_
  rintro e w1 ⟨rfl, k1⟩
  have X1 := Xv.up k1
  have Z1 := Zv.up k1
  have U1 := Uv.trans k1
  clear k1 Uv Xv Zv 
  have X1c := X1.cell
  have X1f := X1.frozen
  have X1l := X1.lt
  have Z1c := Z1.cell
  have Z1f := Z1.frozen
  have Z1l := Z1.lt
  go_wp2_with (fail)
  refine calls_at (fun V2 hV => ?_)
  have kv : Up w1 V2 := by rw [hV]; (repeat (first | with_reducible exact Up.refl _ | with_reducible refine Up.alloc ?_ _ | with_reducible refine Up.drew ?_ | refine Up.setCell ?_ (by simp <;> omega) _))
  have Xv := X1.up kv
  have Zv := Z1.up kv
  have Uv : Up w V2 := U1.trans kv
  clear hV kv X1 X1c X1f X1l Z1 Z1c Z1f Z1l U1
  refine (hv.out V2).mono ?_
  rintro e w2 ⟨rfl, k2⟩
  have X2 := Xv.up k2
  have Z2 := Zv.up k2
  have U2 := Uv.trans k2
  clear k2 Uv Xv Zv 
  have X2c := X2.cell
  have X2f := X2.frozen
  have X2l := X2.lt
  have Z2c := Z2.cell
  have Z2f := Z2.frozen
  have Z2l := Z2.lt
  go_wp2_with (fail)
  refine calls_at (fun V3 hV => ?_)
  have kv : Up w2 V3 := by rw [hV]; (repeat (first | with_reducible exact Up.refl _ | with_reducible refine Up.alloc ?_ _ | with_reducible refine Up.drew ?_ | refine Up.setCell ?_ (by simp <;> omega) _))
  have Xv := X2.up kv
  have Zv := Z2.up kv
  have Uv : Up w V3 := U2.trans kv
  clear hV kv X2 X2c X2f X2l Z2 Z2c Z2f Z2l U2
  refine (hv0.out V3).mono ?_
  rintro e w3 ⟨rfl, k3⟩
  have X3 := Xv.up k3
  have Z3 := Zv.up k3
  have U3 := Uv.trans k3
  clear k3 Uv Xv Zv 
  have X3c := X3.cell
  have X3f := X3.frozen
  have X3l := X3.lt
  have Z3c := Z3.cell
  have Z3f := Z3.frozen
  have Z3l := Z3.lt
  go_wp2_with (fail)
  refine calls_at (fun V4 hV => ?_)
  have kv : Up w3 V4 := by rw [hV]; (repeat (first | with_reducible exact Up.refl _ | with_reducible refine Up.alloc ?_ _ | with_reducible refine Up.drew ?_ | refine Up.setCell ?_ (by simp <;> omega) _))
  have Xv := X3.up kv
  have Zv := Z3.up kv
  have Uv : Up w V4 := U3.trans kv
  clear hV kv X3 X3c X3f X3l Z3 Z3c Z3f Z3l U3
  refine (hat.out V4 Uv).mono ?_
  rintro e w4 ⟨rfl, k4⟩
  have X4 := Xv.up k4
  have Z4 := Zv.up k4
  have U4 := Uv.trans k4
  clear k4 Uv Xv Zv 
  have X4c := X4.cell
  have X4f := X4.frozen
  have X4l := X4.lt
  have Z4c := Z4.cell
  have Z4f := Z4.frozen
  have Z4l := Z4.lt
  go_wp2_with (fail)
  refine calls_at (fun V5 hV => ?_)
  have kv : Up w4 V5 := by rw [hV]; (repeat (first | with_reducible exact Up.refl _ | with_reducible refine Up.alloc ?_ _ | with_reducible refine Up.drew ?_ | refine Up.setCell ?_ (by simp <;> omega) _))
  have Xv := X4.up kv
  have Zv := Z4.up kv
  have Yv : Blk V5 (w4.heap.size) 55 #[.int .i64 t, .int .i64 k, .int .u64 mp] := by rw [hV]; (repeat (first | with_reducible exact Blk.new' _ (by simp) _ _ | with_reducible refine Blk.alloc ?_ _ | with_reducible refine Blk.drew ?_ | refine Blk.far ?_ (by simp <;> omega) _))
  have Uv : Up w V5 := U4.trans kv
  clear hV kv X4 X4c X4f X4l Z4 Z4c Z4f Z4l U4
  refine (hwd.out V5).mono ?_
  rintro e w5 ⟨rfl, k5⟩
  have X5 := Xv.up k5
  have Z5 := Zv.up k5
  have Y5 := Yv.up k5
  have U5 := Uv.trans k5
  clear k5 Uv Xv Zv Yv 
  have X5c := X5.cell
  have X5f := X5.frozen
  have X5l := X5.lt
  have Z5c := Z5.cell
  have Z5f := Z5.frozen
  have Z5l := Z5.lt
  have Y5c := Y5.cell
  have Y5f := Y5.frozen
  have Y5l := Y5.lt
  go_wp2_with (fail)
  refine calls_at (fun V6 hV => ?_)
  have kv : Up w5 V6 := by rw [hV]; (repeat (first | with_reducible exact Up.refl _ | with_reducible refine Up.alloc ?_ _ | with_reducible refine Up.drew ?_ | refine Up.setCell ?_ (by simp <;> omega) _))
  have Xv := X5.up kv
  have Zv := Z5.up kv
  have Yv := Y5.up kv
  have Uv : Up w V6 := U5.trans kv
  clear hV kv X5 X5c X5f X5l Z5 Z5c Z5f Z5l Y5 Y5c Y5f Y5l U5
  refine (htk.out V6).mono ?_
  rintro e w6 ⟨rfl, k6⟩
  have X6 := Xv.up k6
  have Z6 := Zv.up k6
  have Y6 := Yv.up k6
  have U6 := Uv.trans k6
  clear k6 Uv Xv Zv Yv 
  have X6c := X6.cell
  have X6f := X6.frozen
  have X6l := X6.lt
  have Z6c := Z6.cell
  have Z6f := Z6.frozen
  have Z6l := Z6.lt
  have Y6c := Y6.cell
  have Y6f := Y6.frozen
  have Y6l := Y6.lt
  go_wp2_with (fail)
  refine bodyPost_ret (ret_room3 rfl _ _ _ m.n s a l x y (sl P m.n c) (sl Q m.n d) _ _ rfl ((Z6.set8 (.int .i64 m.n) (sl P m.n c) (sl Q m.n d) (.int .i64 s) (.int .i64 a) (.int .i64 l) (.int .i64 x) (.int .i64 y)).alloc (.cells #[.int .i64 s, .int .i64 a, .int .i64 l] 27)) rfl rfl) rfl ?_
  exact ⟨P, Q, c, d, rfl, ((HM.out.up U6).far8 Z6 _ _ _ _ _ _ _ _).up ((Up.refl _).alloc _), (U6.set8 (by omega) _ _ _ _ _ _ _ _).alloc _⟩

set_option maxRecDepth 100000 in
set_option maxHeartbeats 4000000 in
theorem rto_made (m : Me) (s a l x y A : Int) (P Q : Addr) (c d : Nat) (w : World) (hm : Sits w m P Q c d) (hwf : m.wf) (hA : U64 A) (h0 : A ≠ 0) (hcp : Cp m s a l A) :
    Calls Try.prog 20 #[rov m.n (sl P m.n c) (sl Q m.n d) s a l x y, .int .u64 A] w (RtPost w (m.cpm s a A) s (a + m.wn A) l x y (adr s a) 0) := by
  have hto := Lib.hid (fun (W : World) (U : Up w W) => rtwin_any m A P Q c d W (hm.up U) hA hwf)
  have HM := Lib.hid hm
  have q0 : (A == 0) = false := beq_eq_false_iff_ne.2 h0
  have hk := hcp.kn
  have ho := hcp.ov
  have ht := hcp.tw
  have hv := Lib.hid (fun (W : World) => rover_any m.n s a l x y A (sl P m.n c) (sl Q m.n d) W hA)
  have hv0 := Lib.hid (fun (W : World) => rover_any m.n s a l x y 0 (sl P m.n c) (sl Q m.n d) W u64_0)
  have hat := Lib.hid (fun (W : World) (U : Up w W) => rat_any m A P Q c d W (hm.up U) hA hwf)
  obtain ⟨k1, k2, k3, k4, k5⟩ := kne_wdn hk
  have hwd := Lib.hid (fun (W : World) => rhwords_any (m.att A) (m.atl A) (m.atm A) (atm_nn m A) k2 W)
  rw [k3] at hwd
  rw [hk, ht] at hto
  rw [ho] at hv
  rw [ovb_0] at hv0
  rw [k1] at hat
  have hfit := hcp.fit
  have hpl := hcp.pl
  have htk := Lib.hid (fun (W : World) => brtake_any s a l (m.wn A) W)
  have hmay : may s a l (m.wn A) := ⟨hcp.rg, by omega, by omega⟩
  rw [show tka s a l (m.wn A) = a + m.wn A from if_pos hmay, show tkw s a l (m.wn A) = adr s a from if_pos hmay, show btke s a l (m.wn A) = 0 from if_pos hmay] at htk
  have hmv := Lib.hid (show ∀ (W : World) (U : Up w W), Calls Try.prog 43 #[.agg #[.int .i64 m.n, .slice (some P) m.n c, .slice (some Q) m.n d], .int .u64 A, .int .u64 (adr s a), .int .i64 (m.wn A)] W (Gives1 W (m.mv A (adr s a) (m.wn A)) (.int .i64 0)) from fun W U => by
    have q := rmove_any m A (adr s a) (m.wn A) P Q c d W (hm.up U) hA (adr_u64 hcp.rg.1 hpl.1 hpl.2.2.1) (by unfold I64; omega)
    rw [show m.mve A (adr s a) (m.wn A) = 0 from by unfold Me.mve; rw [if_neg (by omega), if_pos hcp.mvok]] at q
    exact q)
  obtain ⟨t1, t2, t3⟩ := hcp.tw2
  obtain ⟨o1, o2, o3, o4, o5⟩ := hcp.off
  have hs1 := Lib.hid (show ∀ (P1 Q1 : Addr) (c1 d1 : Nat) (W : World) (S : Sits W (m.mv A (adr s a) (m.wn A)) P1 Q1 c1 d1), Calls Try.prog 44 #[.agg #[.int .i64 (m.mv A (adr s a) (m.wn A)).n, .slice (some P1) (m.mv A (adr s a) (m.wn A)).n c1, .slice (some Q1) (m.mv A (adr s a) (m.wn A)).n d1], .int .u64 (adr s a + 1), .int .u64 0] W (Gives1 W (m.mv A (adr s a) (m.wn A)) (.int .i64 ((m.mv A (adr s a) (m.wn A)).lde (adr s a + 1)))) from fun P1 Q1 c1 d1 W S => by
    have q := rstore_any (m.mv A (adr s a) (m.wn A)) (adr s a + 1) 0 P1 Q1 c1 d1 W S ⟨t1, t2⟩
    rw [hcp.st0] at q
    exact q)
  have hs2 := Lib.hid (show ∀ (P1 Q1 : Addr) (c1 d1 : Nat) (W : World) (S : Sits W (m.mv A (adr s a) (m.wn A)) P1 Q1 c1 d1), Calls Try.prog 44 #[.agg #[.int .i64 (m.mv A (adr s a) (m.wn A)).n, .slice (some P1) (m.mv A (adr s a) (m.wn A)).n c1, .slice (some Q1) (m.mv A (adr s a) (m.wn A)).n d1], .int .u64 (A + 1), .int .u64 (adr s a)] W (Gives1 W (m.cpm s a A) (.int .i64 ((m.mv A (adr s a) (m.wn A)).lde (A + 1)))) from fun P1 Q1 c1 d1 W S => by
    have q := rstore_any (m.mv A (adr s a) (m.wn A)) (A + 1) (adr s a) P1 Q1 c1 d1 W S ⟨o4, o5⟩
    rw [← hcp.is] at q
    exact q)
  generalize (m.mv A (adr s a) (m.wn A)).lde (adr s a + 1) = z1 at hs1
  generalize (m.mv A (adr s a) (m.wn A)).lde (A + 1) = z2 at hs2
  generalize m.mv A (adr s a) (m.wn A) = K at hmv hs1 hs2
  generalize m.cpm s a A = L at hs2 ⊢
  generalize a + m.wn A = a2 at htk ⊢
  generalize adr s a = T at htk hmv hs1 hs2 t1 t2 ⊢
  generalize m.wn A = n at hwd htk hmv k4 k5
  generalize m.att A = t at hat hwd
  generalize m.atl A = k at hat hwd
  generalize m.atm A = mp at hat hwd
  clear hm hwf hA h0 hk ho ht k1 k2 k3 hcp hfit hpl hmay t3 o1 o2 o3
  go_enter Try.func20, Try.ntmps20
  go_wp2_with (fail)
  refine calls_at (fun V1 hV => ?_)
  have kv : Up w V1 := by rw [hV]; (repeat (first | with_reducible exact Up.refl _ | with_reducible refine Up.alloc ?_ _ | with_reducible refine Up.drew ?_ | refine Up.setCell ?_ (by simp <;> omega) _))
  have Xv : Blk V1 (w.heap.size) 31 #[.int .i64 m.n, .slice (some P) m.n c, .slice (some Q) m.n d, .int .i64 s, .int .i64 a, .int .i64 l, .int .i64 x, .int .i64 y] := by rw [hV]; (repeat (first | with_reducible exact Blk.new' _ (by simp) _ _ | with_reducible refine Blk.alloc ?_ _ | with_reducible refine Blk.drew ?_ | refine Blk.far ?_ (by simp <;> omega) _))
  have Zv : Blk V1 (w.heap.size + 1) 31 #[.int .i64 0, .slice none 0 0, .slice none 0 0, .int .i64 0, .int .i64 0, .int .i64 0, .int .i64 0, .int .i64 0] := by rw [hV]; (repeat (first | with_reducible exact Blk.new' _ (by simp) _ _ | with_reducible refine Blk.alloc ?_ _ | with_reducible refine Blk.drew ?_ | refine Blk.far ?_ (by simp <;> omega) _))
  have Uv : Up w V1 := kv
  clear hV kv 
  refine (hto.out V1 Uv).mono ?_
  rintro e w1 ⟨rfl, k1⟩
  have X1 := Xv.up k1
  have Z1 := Zv.up k1
  have U1 := Uv.trans k1
  clear k1 Uv Xv Zv 
  have X1c := X1.cell
  have X1f := X1.frozen
  have X1l := X1.lt
  have Z1c := Z1.cell
  have Z1f := Z1.frozen
  have Z1l := Z1.lt
  go_wp2_with (fail)
  refine calls_at (fun V2 hV => ?_)
  have kv : Up w1 V2 := by rw [hV]; (repeat (first | with_reducible exact Up.refl _ | with_reducible refine Up.alloc ?_ _ | with_reducible refine Up.drew ?_ | refine Up.setCell ?_ (by simp <;> omega) _))
  have Xv := X1.up kv
  have Zv := Z1.up kv
  have Uv : Up w V2 := U1.trans kv
  clear hV kv X1 X1c X1f X1l Z1 Z1c Z1f Z1l U1
  refine (hv.out V2).mono ?_
  rintro e w2 ⟨rfl, k2⟩
  have X2 := Xv.up k2
  have Z2 := Zv.up k2
  have U2 := Uv.trans k2
  clear k2 Uv Xv Zv 
  have X2c := X2.cell
  have X2f := X2.frozen
  have X2l := X2.lt
  have Z2c := Z2.cell
  have Z2f := Z2.frozen
  have Z2l := Z2.lt
  go_wp2_with (fail)
  refine calls_at (fun V3 hV => ?_)
  have kv : Up w2 V3 := by rw [hV]; (repeat (first | with_reducible exact Up.refl _ | with_reducible refine Up.alloc ?_ _ | with_reducible refine Up.drew ?_ | refine Up.setCell ?_ (by simp <;> omega) _))
  have Xv := X2.up kv
  have Zv := Z2.up kv
  have Uv : Up w V3 := U2.trans kv
  clear hV kv X2 X2c X2f X2l Z2 Z2c Z2f Z2l U2
  refine (hv0.out V3).mono ?_
  rintro e w3 ⟨rfl, k3⟩
  have X3 := Xv.up k3
  have Z3 := Zv.up k3
  have U3 := Uv.trans k3
  clear k3 Uv Xv Zv 
  have X3c := X3.cell
  have X3f := X3.frozen
  have X3l := X3.lt
  have Z3c := Z3.cell
  have Z3f := Z3.frozen
  have Z3l := Z3.lt
  go_wp2_with (fail)
  refine calls_at (fun V4 hV => ?_)
  have kv : Up w3 V4 := by rw [hV]; (repeat (first | with_reducible exact Up.refl _ | with_reducible refine Up.alloc ?_ _ | with_reducible refine Up.drew ?_ | refine Up.setCell ?_ (by simp <;> omega) _))
  have Xv := X3.up kv
  have Zv := Z3.up kv
  have Uv : Up w V4 := U3.trans kv
  clear hV kv X3 X3c X3f X3l Z3 Z3c Z3f Z3l U3
  refine (hat.out V4 Uv).mono ?_
  rintro e w4 ⟨rfl, k4⟩
  have X4 := Xv.up k4
  have Z4 := Zv.up k4
  have U4 := Uv.trans k4
  clear k4 Uv Xv Zv 
  have X4c := X4.cell
  have X4f := X4.frozen
  have X4l := X4.lt
  have Z4c := Z4.cell
  have Z4f := Z4.frozen
  have Z4l := Z4.lt
  go_wp2_with (fail)
  refine calls_at (fun V5 hV => ?_)
  have kv : Up w4 V5 := by rw [hV]; (repeat (first | with_reducible exact Up.refl _ | with_reducible refine Up.alloc ?_ _ | with_reducible refine Up.drew ?_ | refine Up.setCell ?_ (by simp <;> omega) _))
  have Xv := X4.up kv
  have Zv := Z4.up kv
  have Yv : Blk V5 (w4.heap.size) 55 #[.int .i64 t, .int .i64 k, .int .u64 mp] := by rw [hV]; (repeat (first | with_reducible exact Blk.new' _ (by simp) _ _ | with_reducible refine Blk.alloc ?_ _ | with_reducible refine Blk.drew ?_ | refine Blk.far ?_ (by simp <;> omega) _))
  have Uv : Up w V5 := U4.trans kv
  clear hV kv X4 X4c X4f X4l Z4 Z4c Z4f Z4l U4
  refine (hwd.out V5).mono ?_
  rintro e w5 ⟨rfl, k5⟩
  have X5 := Xv.up k5
  have Z5 := Zv.up k5
  have Y5 := Yv.up k5
  have U5 := Uv.trans k5
  clear k5 Uv Xv Zv Yv 
  have X5c := X5.cell
  have X5f := X5.frozen
  have X5l := X5.lt
  have Z5c := Z5.cell
  have Z5f := Z5.frozen
  have Z5l := Z5.lt
  have Y5c := Y5.cell
  have Y5f := Y5.frozen
  have Y5l := Y5.lt
  go_wp2_with (fail)
  refine calls_at (fun V6 hV => ?_)
  have kv : Up w5 V6 := by rw [hV]; (repeat (first | with_reducible exact Up.refl _ | with_reducible refine Up.alloc ?_ _ | with_reducible refine Up.drew ?_ | refine Up.setCell ?_ (by simp <;> omega) _))
  have Xv := X5.up kv
  have Zv := Z5.up kv
  have Yv := Y5.up kv
  have Uv : Up w V6 := U5.trans kv
  clear hV kv X5 X5c X5f X5l Z5 Z5c Z5f Z5l Y5 Y5c Y5f Y5l U5
  refine (htk.out V6).mono ?_
  rintro e w6 ⟨rfl, k6⟩
  have X6 := Xv.up k6
  have Z6 := Zv.up k6
  have Y6 := Yv.up k6
  have U6 := Uv.trans k6
  clear k6 Uv Xv Zv Yv 
  have X6c := X6.cell
  have X6f := X6.frozen
  have X6l := X6.lt
  have Z6c := Z6.cell
  have Z6f := Z6.frozen
  have Z6l := Z6.lt
  have Y6c := Y6.cell
  have Y6f := Y6.frozen
  have Y6l := Y6.lt
  have lz6 := Z6.lt
  go_wp2_with (fail)
  refine calls_at (fun V7 hV => ?_)
  have kv : Up w6 V7 := by rw [hV]; (repeat (first | with_reducible exact Up.refl _ | with_reducible refine Up.alloc ?_ _ | with_reducible refine Up.drew ?_ | refine Up.setCell ?_ (by simp <;> omega) _))
  have Xv := X6.up kv
  have Zv := Z6.up kv
  have Yv := Y6.up kv
  have Jv : Blk V7 (w6.heap.size) 27 #[.int .i64 s, .int .i64 a2, .int .i64 l] := by rw [hV]; (repeat (first | with_reducible exact Blk.new' _ (by simp) _ _ | with_reducible refine Blk.alloc ?_ _ | with_reducible refine Blk.drew ?_ | refine Blk.far ?_ (by simp <;> omega) _))
  have Uv : Up w V7 := U6.trans kv
  clear hV kv X6 X6c X6f X6l Z6 Z6c Z6f Z6l Y6 Y6c Y6f Y6l U6
  refine (hmv.out V7 Uv).mono ?_
  rintro e w7 ⟨P1, Q1, c1, d1, rfl, s17, k7⟩
  have X7 := Xv.up k7
  have Z7 := Zv.up k7
  have Y7 := Yv.up k7
  have J7 := Jv.up k7
  have U7 := Uv.trans k7
  clear k7 Uv Xv Zv Yv Jv 
  have X7c := X7.cell
  have X7f := X7.frozen
  have X7l := X7.lt
  have Z7c := Z7.cell
  have Z7f := Z7.frozen
  have Z7l := Z7.lt
  have Y7c := Y7.cell
  have Y7f := Y7.frozen
  have Y7l := Y7.lt
  have J7c := J7.cell
  have J7f := J7.frozen
  have J7l := J7.lt
  go_wp2_with (fail)
  refine calls_at (fun V hV => ?_)
  have kv : Up w7 V := by rw [hV]; exact (Up.refl _).alloc _
  have M8 : Blk V w7.heap.size 25 #[.int .i64 K.n, .slice (some P1) K.n c1, .slice (some Q1) K.n d1] := by rw [hV]; exact Blk.new _ _ _
  have U8 := U7.trans kv
  have X8 := X7.up kv
  have Z8 := Z7.up kv
  have J8 := J7.up kv
  have s8 := s17.up kv
  have lX := X7.lt
  have lZ := Z7.lt
  have lJ := J7.lt
  have gX : ¬ w.heap.size = w7.heap.size := by omega
  have gZ : ¬ w.heap.size + 1 = w7.heap.size := by omega
  have gJ : ¬ w6.heap.size = w7.heap.size := by omega
  have gX2 : ¬ w7.heap.size = w.heap.size := by omega
  have gZ2 : ¬ w7.heap.size = w.heap.size + 1 := by omega
  have gJ2 : ¬ w7.heap.size = w6.heap.size := by omega
  have lU := U7.size
  generalize w7.heap.size = gM at M8 gX gZ gJ gX2 gZ2 gJ2 lU
  clear hV kv U7 s17 X7 Z7 J7 Y7 X7c X7f X7l Z7c Z7f Z7l J7c J7f J7l Y7c Y7f Y7l lX lZ lJ
  refine (hs1.out P1 Q1 c1 d1 V s8).mono ?_
  rintro e w9 ⟨P2, Q2, c2, d2, rfl, s9, k9⟩
  have U9 := U8.trans k9
  have X9 := X8.up k9
  have Z9 := Z8.up k9
  have J9 := J8.up k9
  have M9 := M8.up k9
  clear k9 U8 X8 Z8 J8 M8 s8
  have M9c := M9.cell
  have M9f := M9.frozen
  have M9l := M9.lt
  go_wp2_with (fail)
  refine calls_at (fun V2 hV2 => ?_)
  have M10 : Blk V2 gM 25 #[.int .i64 K.n, .slice (some P2) K.n c2, .slice (some Q2) K.n d2] := by rw [hV2]; exact M9.set3 _ _ _
  have U10 : Up w V2 := by rw [hV2]; exact U9.set3 lU _ _ _
  have X10 : Blk V2 w.heap.size 31 #[.int .i64 m.n, .slice (some P) m.n c, .slice (some Q) m.n d, .int .i64 s, .int .i64 a, .int .i64 l, .int .i64 x, .int .i64 y] := by rw [hV2]; exact X9.far3 gX _ _ _
  have Z10 : Blk V2 (w.heap.size + 1) 31 #[.int .i64 0, .slice none 0 0, .slice none 0 0, .int .i64 0, .int .i64 0, .int .i64 0, .int .i64 0, .int .i64 0] := by rw [hV2]; exact Z9.far3 gZ _ _ _
  have J10 : Blk V2 w6.heap.size 27 #[.int .i64 s, .int .i64 a2, .int .i64 l] := by rw [hV2]; exact J9.far3 gJ _ _ _
  have s10 : Sits V2 K P2 Q2 c2 d2 := by rw [hV2]; exact s9.far3 M9 _ _ _
  clear hV2 U9 X9 Z9 J9 M9 s9 M9c M9f M9l
  refine (hs2.out P2 Q2 c2 d2 V2 s10).mono ?_
  rintro e w11 ⟨P3, Q3, c3, d3, rfl, s11, k11⟩
  have U11 := U10.trans k11
  have X11 := X10.up k11
  have Z11 := Z10.up k11
  have J11 := J10.up k11
  have M11 := M10.up k11
  clear k11 U10 X10 Z10 J10 M10 s10
  have M11c := M11.cell
  have M11f := M11.frozen
  have M11l := M11.lt
  have X11c := X11.cell
  have X11l := X11.lt
  have J11c := J11.cell
  have J11l := J11.lt
  have Z11c := Z11.cell
  have Z11f := Z11.frozen
  have Z11l := Z11.lt
  have gXZ : ¬ w.heap.size = w.heap.size + 1 := by omega
  have gJZ : ¬ w6.heap.size = w.heap.size + 1 := by omega
  go_wp2_with (fail)
  have Z12 := Z11.far3 gZ (.int .i64 L.n) (.slice (some P3) L.n c3) (.slice (some Q3) L.n d3)
  refine bodyPost_ret (ret_room3 rfl _ _ _ L.n s a2 l x y (sl P3 L.n c3) (sl Q3 L.n d3) _ _ rfl (Z12.set8 (.int .i64 L.n) (sl P3 L.n c3) (sl Q3 L.n d3) (.int .i64 s) (.int .i64 a2) (.int .i64 l) (.int .i64 x) (.int .i64 y)) rfl rfl) rfl ?_
  exact ⟨P3, Q3, c3, d3, rfl, (s11.far3 M11 _ _ _).far8 Z12 _ _ _ _ _ _ _ _, (U11.set3 lU _ _ _).set8 (by omega) _ _ _ _ _ _ _ _⟩

/-- What the document's To answers of an object that has no twin and isn't over there. -/
theorem rto_any (m : Me) (s a l x y A : Int) (P Q : Addr) (c d : Nat) (w : World) (hm : Sits w m P Q c d) (hwf : m.wf) (hA : U64 A) (h0 : A ≠ 0) (hmd : mde m s A = false) (hr : rgt s a l) (hl : l = m.n) :
    Calls Try.prog 20 #[rov m.n (sl P m.n c) (sl Q m.n d) s a l x y, .int .u64 A] w (RtPost w (toa m s a l A).m s (toa m s a l A).a l x y (toa m s a l A).b (toa m s a l A).e) := by
  obtain ⟨ht, h | ⟨hk, ho⟩⟩ := mde_no hmd
  · rw [show toa m s a l A = ⟨m, a, 0, m.kne A⟩ from by unfold toa; rw [if_neg h0, if_pos h]]
    exact rto_err m s a l x y A P Q c d w hm hwf hA h0 h
  · by_cases h4 : l - a < m.wn A
    · rw [show toa m s a l A = ⟨m, a, 0, 4⟩ from by unfold toa; rw [if_neg h0, if_neg (by simp [hk]), if_neg (by simp [ho]), if_neg (by simp [ht]), if_pos h4]]
      exact rto_full m s a l x y A P Q c d w hm hwf hA h0 hk ho ht hr h4
    · rw [show toa m s a l A = ⟨m.cpm s a A, a + m.wn A, adr s a, 0⟩ from by unfold toa; rw [if_neg h0, if_neg (by simp [hk]), if_neg (by simp [ho]), if_neg (by simp [ht]), if_neg h4]]
      exact rto_made m s a l x y A P Q c d w hm hwf hA h0 (toa_cp hm.1 hwf hr hl hk ho ht h4)
end Go.Proofs.Ytgcpkgogjcgfbaa
namespace Go.Proofs.Ytgcpkgogjcgfbaa
open Go.Joins Go.ChangeShapes Go.WideShapes Go.ChangeAt Go.RowKit Go.Deep
set_option linter.unusedVariables false
set_option linter.unusedSimpArgs false

def mA : Me := m16.putm 4294967296 1 1 0
def oB : An := toa mA 1 0 16 4294967296
def mC : Me := oB.m.setm 4294967296 0 9
def oD : Rp := rep mC 1 3 16 4294967296 0
theorem facts13 : mA.n = 16 ∧ oB.m.n = 16 ∧ oB.a = 3 ∧ oB.b = 8589934592 ∧ oB.e = 0 ∧ mC.n = 16 ∧ oD.m.n = 16 ∧ oD.a = 3 ∧ oD.e = 0 ∧ oD.m.getv 8589934592 0 = 9 ∧ oD.m.gete 8589934592 0 = 0 ∧ mde mA 1 4294967296 = false := by decide +kernel
theorem mA_ok : mA.ok := show 16 ≤ mA.n ∧ mA.n ≤ 4096 ∧ mA.xs.length = mA.n ∧ mA.ys.length = mA.n from by decide +kernel
theorem mA_wf : mA.wf := put_wf (by decide) m16_ok.2
theorem oB_kb : Kb mA 0 oB.m oB.a := toa_kb mA_ok mA_wf (show rgt 1 0 16 from by decide) (by rw [facts13.1]; rfl) _
theorem mC_kb : Kb mA 0 mC oB.a := set_kb oB_kb (by unfold U64; decide) _ _
theorem oD_wf : oD.m.wf := (rep_kb (o := 4294967296) (f := 0) mC_kb.ok mC_kb.wf (show rgt 1 3 16 from by decide) (by rw [facts13.2.2.2.2.2.1]; rfl)).wf
abbrev m3v (P Q : Addr) (c d : Nat) : Value := .agg #[.int .i64 16, .slice (some P) 16 c, .slice (some Q) 16 d]
abbrev r3v (P Q : Addr) (c d : Nat) (a : Int) : Value := .agg #[.int .i64 16, .slice (some P) 16 c, .slice (some Q) 16 d, .int .i64 1, .int .i64 a, .int .i64 16, .int .i64 0, .int .i64 0]
def Mem3 (K : Me) (W : World) (e : Ending) (w' : World) : Prop := ∃ P' Q' c' d' z, e = .returned (.tuple #[m3v P' Q' c' d', .int .i64 z]) ∧ Sits w' K P' Q' c' d' ∧ Up W w'
theorem shA (W : World) (P Q : Addr) (h : Sits W m16 P Q 16 16) : Calls Try.prog 23 #[m3v P Q 16 16, .int .u64 4294967296, hdv 1 1 0] W (Mem3 mA W) := by
  refine (rput_any m16 4294967296 1 1 0 P Q 16 16 W h (by unfold U64; decide) (by decide)).mono ?_
  rintro e w' ⟨P', Q', c', d', rfl, hs, hu⟩
  refine ⟨P', Q', c', d', m16.pute 4294967296 1 1 0, ?_, hs, hu⟩
  rw [show (m16.putm 4294967296 1 1 0).n = 16 from facts13.1]
  rfl
theorem shB (W : World) (P Q : Addr) (c d : Nat) (h : Sits W mA P Q c d) : Calls Try.prog 20 #[r3v P Q c d 0, .int .u64 4294967296] W
    fun e w' => ∃ P' Q' c' d', e = .returned (.tuple #[r3v P' Q' c' d' 3, .int .u64 8589934592, .int .i64 0]) ∧ Sits w' oB.m P' Q' c' d' ∧ Up W w' := by
  obtain ⟨f1, f2, f3, f4, f5, _⟩ := facts13
  have q := rto_any mA 1 0 16 0 0 4294967296 P Q c d W h mA_wf (by unfold U64; decide) (by decide) facts13.2.2.2.2.2.2.2.2.2.2.2 (by decide) (by rw [f1]; rfl)
  rw [f1, show toa mA 1 0 16 4294967296 = oB from rfl, f3, f4, f5] at q
  refine q.mono ?_
  rintro e w' ⟨P', Q', c', d', rfl, hs, hu⟩
  refine ⟨P', Q', c', d', ?_, hs, hu⟩
  rw [f2]
  rfl
theorem shC (W : World) (P Q : Addr) (c d : Nat) (h : Sits W oB.m P Q c d) : Calls Try.prog 24 #[m3v P Q c d, .int .u64 4294967296, .int .i64 0, .int .u64 9] W (Mem3 mC W) := by
  have q := rset_any oB.m 4294967296 0 9 P Q c d W h (by unfold U64; decide) oB_kb.wf
  rw [facts13.2.1] at q
  refine q.mono ?_
  rintro e w' ⟨P', Q', c', d', rfl, hs, hu⟩
  refine ⟨P', Q', c', d', oB.m.gete 4294967296 0, ?_, hs, hu⟩
  rw [show (oB.m.setm 4294967296 0 9).n = 16 from facts13.2.2.2.2.2.1]
  rfl
theorem shD (W : World) (P Q : Addr) (c d : Nat) (h : Sits W mC P Q c d) : Calls Try.prog 15 #[r3v P Q c d 3, .agg #[.int .u64 4294967296, .int .i64 0]] W
    fun e w' => ∃ P' Q' c' d', e = .returned (.tuple #[r3v P' Q' c' d' 3, .int .i64 0]) ∧ Sits w' oD.m P' Q' c' d' ∧ Up W w' := by
  obtain ⟨_, _, _, _, _, f6, f7, f8, f9, _⟩ := facts13
  have q := one_any mC 1 3 16 0 0 4294967296 0 P Q c d W h mC_kb.wf (by unfold U64; decide) (by decide) (by rw [f6]; rfl)
  rw [f6, show rep mC 1 3 16 4294967296 0 = oD from rfl, f8, f9] at q
  refine q.mono ?_
  rintro e w' ⟨P', Q', c', d', rfl, hs, hu⟩
  refine ⟨P', Q', c', d', ?_, hs, hu⟩
  rw [f7]
  rfl
theorem shE (W : World) (P Q : Addr) (c d : Nat) (h : Sits W oD.m P Q c d) : Calls Try.prog 19 #[m3v P Q c d, .int .u64 8589934592, .int .i64 0] W fun e w' => e = .returned (.tuple #[.int .u64 9, .bool (oD.m.getb 8589934592 0), .int .i64 0]) ∧ Up W w' := by
  obtain ⟨_, _, _, _, _, _, f7, _, _, f10, f11, _⟩ := facts13
  have q := rget_any oD.m 8589934592 0 P Q c d W h (by unfold U64; decide) oD_wf
  rw [f7, f10, f11] at q
  exact q

set_option maxRecDepth 100000 in
set_option maxHeartbeats 8000000 in
theorem shown13 (w : World) : Calls Try.prog 7 #[] w fun e w' => e = .returned (.bool true) ∧ Up w w' := by
  have hmk : ∀ w : World, (Instr.makeSlice 22 (.int .i64 16) (.int .i64 16)).run Try.prog w = .ok (.slice (some ⟨w.heap.size, 0, none⟩) 16 16) (w.alloc (.cells (wds (zers 16)).toArray 44)) := make_is 16 (by decide)
  have hA := Lib.hid shA
  have hB := Lib.hid shB
  have hC := Lib.hid shC
  have hD := Lib.hid shD
  have hE := Lib.hid shE
  obtain ⟨pb, hpb⟩ : ∃ b, oD.m.getb 8589934592 0 = b := ⟨_, rfl⟩
  rw [hpb] at hE
  clear hpb
  go_enter Try.func7, Try.ntmps7
  go_wp2
  go_region
  all_goals
    go_wp2_with (fail)
    refine calls_at (fun V hV => ?_)
    obtain ⟨U0, B0, B1, B2⟩ := three hV
    clear hV
    refine (hA.out V _ _ (m16_sits V _ _ (by first | exact row_of_blk B0 | exact row_of_blk B1 | exact row_of_blk B2) (by first | exact row_of_blk B0 | exact row_of_blk B1 | exact row_of_blk B2))).mono ?_
    rintro e w2 ⟨P', Q', c', d', z1, rfl, s2, h2⟩
    have U2 := U0.trans h2
    first
      | (have D2 := B0.up h2
         have t2 := s2.far3 D2 (.int .i64 16) (.slice (some P') 16 c') (.slice (some Q') 16 d')
         have U3 := U2.set3 (g := w.heap.size) (by omega) (.int .i64 16) (.slice (some P') 16 c') (.slice (some Q') 16 d')
         have D2c := D2.cell
         have D2f := D2.frozen
         have D2l := D2.lt
         go_wp2_with (fail)
         refine (hB.out _ P' Q' c' d' t2).mono ?_
         rintro e w4 ⟨P4, Q4, c4, d4, rfl, s4, h4⟩
         have U4 := U3.trans h4
         clear D2 D2c D2f D2l h2 h4 U2 U3 t2 B0 B1 B2 U0 s2
         go_wp2_with (fail)
         refine calls_at (fun V5 hV5 => ?_)
         have k5 : Up w4 V5 := by rw [hV5]; exact (Up.refl _).alloc _
         have X5 : Blk V5 w4.heap.size 31 #[.int .i64 16, .slice (some P4) 16 c4, .slice (some Q4) 16 d4, .int .i64 1, .int .i64 3, .int .i64 16, .int .i64 0, .int .i64 0] := by rw [hV5]; exact Blk.new _ _ _
         have U5 := U4.trans k5
         have s5 := s4.up k5
         have l4 := U4.size
         generalize w4.heap.size = g at X5 l4
         clear hV5 k5 U4 s4
         refine (hC.out V5 P4 Q4 c4 d4 s5).mono ?_
         rintro e w6 ⟨P6, Q6, c6, d6, z3, rfl, s6, h6⟩
         have U6 := U5.trans h6
         have X6 := X5.up h6
         clear h6 U5 X5 s5
         have X6c := X6.cell
         have X6f := X6.frozen
         have X6l := X6.lt
         go_wp2_with (fail)
         refine calls_at (fun V7 hV7 => ?_)
         have X7 : Blk V7 g 31 #[.int .i64 16, .slice (some P6) 16 c6, .slice (some Q6) 16 d6, .int .i64 1, .int .i64 3, .int .i64 16, .int .i64 0, .int .i64 0] := by rw [hV7]; exact ((X6.set_ 0 (.int .i64 16)).set_ 1 (.slice (some P6) 16 c6)).set_ 2 (.slice (some Q6) 16 d6)
         have U7 : Up w V7 := by rw [hV7]; exact ((U6.setCell l4 _).setCell l4 _).setCell l4 _
         have s7 : Sits V7 mC P6 Q6 c6 d6 := by rw [hV7]; exact ((s6.far X6 (by simp) _).far (X6.set_ 0 _) (by simp) _).far ((X6.set_ 0 _).set_ 1 _) (by simp) _
         clear hV7 U6 X6 s6 X6c X6f X6l
         refine (hD.out V7 P6 Q6 c6 d6 s7).mono ?_
         rintro e w8 ⟨P8, Q8, c8, d8, rfl, s8, h8⟩
         have U8 := U7.trans h8
         have X8 := X7.up h8
         clear h8 U7 X7 s7
         have X8c := X8.cell
         have X8f := X8.frozen
         have X8l := X8.lt
         go_wp2_with (fail)
         refine calls_at (fun V9 hV9 => ?_)
         have U9 : Up w V9 := by rw [hV9]; exact U8.set8 l4 _ _ _ _ _ _ _ _
         have s9 : Sits V9 oD.m P8 Q8 c8 d8 := by rw [hV9]; exact s8.far8 X8 _ _ _ _ _ _ _ _
         clear hV9 U8 X8 s8 X8c X8f X8l
         refine (hE.out V9 P8 Q8 c8 d8 s9).mono ?_
         rintro e w10 ⟨rfl, h10⟩
         have U10 := U9.trans h10
         clear U9 h10 s9
         go_wp2
         go_ret
         exact ⟨rfl, U10⟩)
      | (have D2 := B1.up h2
         have t2 := s2.far3 D2 (.int .i64 16) (.slice (some P') 16 c') (.slice (some Q') 16 d')
         have U3 := U2.set3 (g := (w.heap.size + 1)) (by omega) (.int .i64 16) (.slice (some P') 16 c') (.slice (some Q') 16 d')
         have D2c := D2.cell
         have D2f := D2.frozen
         have D2l := D2.lt
         go_wp2_with (fail)
         refine (hB.out _ P' Q' c' d' t2).mono ?_
         rintro e w4 ⟨P4, Q4, c4, d4, rfl, s4, h4⟩
         have U4 := U3.trans h4
         clear D2 D2c D2f D2l h2 h4 U2 U3 t2 B0 B1 B2 U0 s2
         go_wp2_with (fail)
         refine calls_at (fun V5 hV5 => ?_)
         have k5 : Up w4 V5 := by rw [hV5]; exact (Up.refl _).alloc _
         have X5 : Blk V5 w4.heap.size 31 #[.int .i64 16, .slice (some P4) 16 c4, .slice (some Q4) 16 d4, .int .i64 1, .int .i64 3, .int .i64 16, .int .i64 0, .int .i64 0] := by rw [hV5]; exact Blk.new _ _ _
         have U5 := U4.trans k5
         have s5 := s4.up k5
         have l4 := U4.size
         generalize w4.heap.size = g at X5 l4
         clear hV5 k5 U4 s4
         refine (hC.out V5 P4 Q4 c4 d4 s5).mono ?_
         rintro e w6 ⟨P6, Q6, c6, d6, z3, rfl, s6, h6⟩
         have U6 := U5.trans h6
         have X6 := X5.up h6
         clear h6 U5 X5 s5
         have X6c := X6.cell
         have X6f := X6.frozen
         have X6l := X6.lt
         go_wp2_with (fail)
         refine calls_at (fun V7 hV7 => ?_)
         have X7 : Blk V7 g 31 #[.int .i64 16, .slice (some P6) 16 c6, .slice (some Q6) 16 d6, .int .i64 1, .int .i64 3, .int .i64 16, .int .i64 0, .int .i64 0] := by rw [hV7]; exact ((X6.set_ 0 (.int .i64 16)).set_ 1 (.slice (some P6) 16 c6)).set_ 2 (.slice (some Q6) 16 d6)
         have U7 : Up w V7 := by rw [hV7]; exact ((U6.setCell l4 _).setCell l4 _).setCell l4 _
         have s7 : Sits V7 mC P6 Q6 c6 d6 := by rw [hV7]; exact ((s6.far X6 (by simp) _).far (X6.set_ 0 _) (by simp) _).far ((X6.set_ 0 _).set_ 1 _) (by simp) _
         clear hV7 U6 X6 s6 X6c X6f X6l
         refine (hD.out V7 P6 Q6 c6 d6 s7).mono ?_
         rintro e w8 ⟨P8, Q8, c8, d8, rfl, s8, h8⟩
         have U8 := U7.trans h8
         have X8 := X7.up h8
         clear h8 U7 X7 s7
         have X8c := X8.cell
         have X8f := X8.frozen
         have X8l := X8.lt
         go_wp2_with (fail)
         refine calls_at (fun V9 hV9 => ?_)
         have U9 : Up w V9 := by rw [hV9]; exact U8.set8 l4 _ _ _ _ _ _ _ _
         have s9 : Sits V9 oD.m P8 Q8 c8 d8 := by rw [hV9]; exact s8.far8 X8 _ _ _ _ _ _ _ _
         clear hV9 U8 X8 s8 X8c X8f X8l
         refine (hE.out V9 P8 Q8 c8 d8 s9).mono ?_
         rintro e w10 ⟨rfl, h10⟩
         have U10 := U9.trans h10
         clear U9 h10 s9
         go_wp2
         go_ret
         exact ⟨rfl, U10⟩)
      | (have D2 := B2.up h2
         have t2 := s2.far3 D2 (.int .i64 16) (.slice (some P') 16 c') (.slice (some Q') 16 d')
         have U3 := U2.set3 (g := (w.heap.size + 1 + 1)) (by omega) (.int .i64 16) (.slice (some P') 16 c') (.slice (some Q') 16 d')
         have D2c := D2.cell
         have D2f := D2.frozen
         have D2l := D2.lt
         go_wp2_with (fail)
         refine (hB.out _ P' Q' c' d' t2).mono ?_
         rintro e w4 ⟨P4, Q4, c4, d4, rfl, s4, h4⟩
         have U4 := U3.trans h4
         clear D2 D2c D2f D2l h2 h4 U2 U3 t2 B0 B1 B2 U0 s2
         go_wp2_with (fail)
         refine calls_at (fun V5 hV5 => ?_)
         have k5 : Up w4 V5 := by rw [hV5]; exact (Up.refl _).alloc _
         have X5 : Blk V5 w4.heap.size 31 #[.int .i64 16, .slice (some P4) 16 c4, .slice (some Q4) 16 d4, .int .i64 1, .int .i64 3, .int .i64 16, .int .i64 0, .int .i64 0] := by rw [hV5]; exact Blk.new _ _ _
         have U5 := U4.trans k5
         have s5 := s4.up k5
         have l4 := U4.size
         generalize w4.heap.size = g at X5 l4
         clear hV5 k5 U4 s4
         refine (hC.out V5 P4 Q4 c4 d4 s5).mono ?_
         rintro e w6 ⟨P6, Q6, c6, d6, z3, rfl, s6, h6⟩
         have U6 := U5.trans h6
         have X6 := X5.up h6
         clear h6 U5 X5 s5
         have X6c := X6.cell
         have X6f := X6.frozen
         have X6l := X6.lt
         go_wp2_with (fail)
         refine calls_at (fun V7 hV7 => ?_)
         have X7 : Blk V7 g 31 #[.int .i64 16, .slice (some P6) 16 c6, .slice (some Q6) 16 d6, .int .i64 1, .int .i64 3, .int .i64 16, .int .i64 0, .int .i64 0] := by rw [hV7]; exact ((X6.set_ 0 (.int .i64 16)).set_ 1 (.slice (some P6) 16 c6)).set_ 2 (.slice (some Q6) 16 d6)
         have U7 : Up w V7 := by rw [hV7]; exact ((U6.setCell l4 _).setCell l4 _).setCell l4 _
         have s7 : Sits V7 mC P6 Q6 c6 d6 := by rw [hV7]; exact ((s6.far X6 (by simp) _).far (X6.set_ 0 _) (by simp) _).far ((X6.set_ 0 _).set_ 1 _) (by simp) _
         clear hV7 U6 X6 s6 X6c X6f X6l
         refine (hD.out V7 P6 Q6 c6 d6 s7).mono ?_
         rintro e w8 ⟨P8, Q8, c8, d8, rfl, s8, h8⟩
         have U8 := U7.trans h8
         have X8 := X7.up h8
         clear h8 U7 X7 s7
         have X8c := X8.cell
         have X8f := X8.frozen
         have X8l := X8.lt
         go_wp2_with (fail)
         refine calls_at (fun V9 hV9 => ?_)
         have U9 : Up w V9 := by rw [hV9]; exact U8.set8 l4 _ _ _ _ _ _ _ _
         have s9 : Sits V9 oD.m P8 Q8 c8 d8 := by rw [hV9]; exact s8.far8 X8 _ _ _ _ _ _ _ _
         clear hV9 U8 X8 s8 X8c X8f X8l
         refine (hE.out V9 P8 Q8 c8 d8 s9).mono ?_
         rintro e w10 ⟨rfl, h10⟩
         have U10 := U9.trans h10
         clear U9 h10 s9
         go_wp2
         go_ret
         exact ⟨rfl, U10⟩)

end Go.Proofs.Ytgcpkgogjcgfbaa
