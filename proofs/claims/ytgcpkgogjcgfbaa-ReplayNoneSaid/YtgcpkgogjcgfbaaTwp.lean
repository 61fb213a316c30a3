/- What follows for memory in which a twin was made, and for one in which those of some were: nothing but what is taken and the object's twin changes. -/
import Derived.Test.YtgcpkgogjcgfbaaTw0
namespace Go.Proofs.Ytgcpkgogjcgfbaa
open Go.ChangeShapes Go.WideShapes Go.ChangeAt Go.RowKit
set_option linter.unusedVariables false
set_option linter.unusedSimpArgs false

theorem mem_splice {L W : List Int} {j : Nat} {x : Int} (h : x ∈ splice L j W) : x ∈ L ∨ x ∈ W := by
  unfold splice at h
  rcases List.mem_append.1 h with h | h
  · exact .inl (List.mem_of_mem_take h)
  · rcases List.mem_append.1 h with h | h
    · exact .inr h
    · exact .inl (List.mem_of_mem_drop h)

/-- A twin can be made. -/
structure Cp (m : Me) (s a l A : Int) : Prop where
  ok : m.ok
  wf : m.wf
  rg : rgt s a l
  hl : l = m.n
  kn : m.kne A = 0
  ov : ovb s A = false
  tw : m.twv A = 0
  fit : m.wn A ≤ l - a
section
variable {m : Me} {s a l A : Int}
theorem Cp.wn (h : Cp m s a l A) : 2 ≤ m.wn A ∧ m.wn A ≤ 18 := by
  have h1 := (kne_inn h.kn).2
  have h2 := atl_16 h.kn
  unfold Me.wn
  omega
theorem kne_whb (h : m.kne A = 0) : whb A = true := (kne_inn h).1.1
theorem ovb_no (hb : whb A = true) (h : ovb s A = false) : whs A ≠ s := fun e => by
  unfold ovb at h
  rw [hb, decide_eq_true e] at h
  cases h
theorem Cp.pl (h : Cp m s a l A) : 0 ≤ a ∧ a + m.wn A ≤ m.n ∧ a ≤ 4096 ∧ whs (adr s a) = s ∧ whp (adr s a) = a ∧ whb (adr s a) = true := by
  obtain ⟨h1, h2, h3, h4⟩ := h.rg
  have hf := h.fit
  have hl := h.hl
  have hw := h.wn
  have := h.ok.2.1
  obtain ⟨e1, e2, e3⟩ := adr_is h1 h2 (by omega)
  exact ⟨h2, by omega, by omega, e1, e2, e3⟩
theorem Cp.mvok (h : Cp m s a l A) : m.mvok A (adr s a) (m.wn A) := by
  obtain ⟨p1, p2, p3, e1, e2, e3⟩ := h.pl
  have hw := h.wn
  have hi := (kne_inn h.kn).1
  refine ⟨by omega, ⟨hi.1, ?_⟩, ⟨e3, ?_⟩⟩
  · have := hi.2
    unfold Me.wn at *
    exact ⟨by omega, by omega⟩
  · rw [e2]
    exact ⟨by omega, by omega⟩
/-- The words that are moved. -/
def Me.ws (m : Me) (A : Int) : List Int := ((m.sp (whs A)).drop (whp A).toNat).take (m.wn A).toNat
theorem Cp.ws (h : Cp m s a l A) : (m.ws A).length = (m.wn A).toNat := by
  have hi := (kne_inn h.kn).1.2
  have hl := Me.len_sp h.ok (whs A)
  have hp := whp_nn A
  unfold Me.ws
  unfold Me.wn at *
  simp
  omega
theorem Cp.mv (h : Cp m s a l A) : m.mv A (adr s a) (m.wn A) = m.put s (splice (m.sp s) a.toNat (m.ws A)) := by
  obtain ⟨p1, p2, p3, e1, e2, e3⟩ := h.pl
  rw [show m.mv A (adr s a) (m.wn A) = _ from if_pos h.mvok, e1, e2]
  rfl
theorem Cp.len (h : Cp m s a l A) : (splice (m.sp s) a.toNat (m.ws A)).length = m.n := by
  obtain ⟨p1, p2, p3, e1, e2, e3⟩ := h.pl
  have hl := Me.len_sp h.ok s
  have hw := h.wn
  rw [length_splice _ _ _ (by rw [h.ws, hl]; omega), hl]
theorem Cp.mvn (h : Cp m s a l A) : (m.mv A (adr s a) (m.wn A)).n = m.n := by rw [h.mv, put_nn]
theorem Cp.mvk (h : Cp m s a l A) : (m.mv A (adr s a) (m.wn A)).ok := by
  rw [h.mv]
  exact Me.ok.put h.ok s h.len
theorem Cp.mvw (h : Cp m s a l A) : (m.mv A (adr s a) (m.wn A)).wf := by
  have hs : ∀ x ∈ splice (m.sp s) a.toNat (m.ws A), U64 x := fun x hx => by
    rcases mem_splice hx with q | q
    · exact h.wf.sp _ x q
    · exact h.wf.sp _ x (List.mem_of_mem_drop (List.mem_of_mem_take q))
  rw [h.mv]
  unfold Me.put
  split
  · exact ⟨h.wf.1, hs⟩
  · exact ⟨hs, h.wf.2⟩
/-- A word is taken. -/
def tkn (s a n q : Int) : Prop := whb q = true ∧ whs q = s ∧ a ≤ whp q ∧ whp q < a + n
theorem Cp.mvl (h : Cp m s a l A) {q : Int} (hq : ¬ tkn s a (m.wn A) q) : (m.mv A (adr s a) (m.wn A)).ld q = m.ld q := by
  obtain ⟨p1, p2, p3, e1, e2, e3⟩ := h.pl
  have hw := h.wn
  by_cases ht : m.there q
  · rw [show (m.mv A (adr s a) (m.wn A)).ld q = _ from if_pos ((there_n h.mvn q).2 ht), show m.ld q = _ from if_pos ht, h.mv]
    by_cases hs : whs q = s
    · have hn : ¬ (a ≤ whp q ∧ whp q < a + m.wn A) := fun k => hq ⟨ht.1, hs, k.1, k.2⟩
      have hl := Me.len_sp h.ok s
      have hp := whp_nn q
      rw [hs, Me.sp_put m h.rg.1]
      unfold List.getD
      rw [getElem?_splice _ _ _ _ (by rw [h.ws, hl]; omega), h.ws]
      by_cases k : (whp q).toNat < a.toNat
      · rw [if_pos k]
      · rw [if_neg k, if_neg (by omega)]
    · rw [Me.sp_put_ne m h.rg.1 (whs_01 q) (fun e => hs e.symm)]
  · rw [show (m.mv A (adr s a) (m.wn A)).ld q = _ from if_neg (fun k => ht ((there_n h.mvn q).1 k)), show m.ld q = _ from if_neg ht]
theorem Cp.off (h : Cp m s a l A) : whs (A + 1) = whs A ∧ whp (A + 1) = whp A + 1 ∧ m.there (A + 1) ∧ 0 ≤ A + 1 ∧ A + 1 ≤ 18446744073709551615 :=
  inn_off h.ok.2.1 (kne_inn h.kn).1 (by omega) (by have := (kne_inn h.kn).2; omega)
theorem Cp.nt (h : Cp m s a l A) : ¬ tkn s a (m.wn A) A ∧ ¬ tkn s a (m.wn A) (A + 1) :=
  ⟨fun k => ovb_no (kne_whb h.kn) h.ov k.2.1, fun k => ovb_no (kne_whb h.kn) h.ov (h.off.1.symm.trans k.2.1)⟩
theorem Cp.mvkn (h : Cp m s a l A) : (m.mv A (adr s a) (m.wn A)).kne A = 0 := (same_kne h.mvn (h.mvl h.nt.1)).trans h.kn
theorem Cp.mvtw (h : Cp m s a l A) : (m.mv A (adr s a) (m.wn A)).ld (A + 1) = 0 := by
  rw [h.mvl h.nt.2, ← show m.twv A = m.ld (A + 1) from if_pos h.kn]
  exact h.tw
theorem Cp.is (h : Cp m s a l A) : m.cpm s a A = (m.mv A (adr s a) (m.wn A)).st (A + 1) (adr s a) := by
  unfold Me.cpm
  rw [show (m.mv A (adr s a) (m.wn A)).joinm A (adr s a) = _ from if_pos h.mvkn]
  exact if_pos ⟨(there_n h.mvn _).2 h.off.2.2.1, h.mvtw⟩
theorem Cp.n (h : Cp m s a l A) : (m.cpm s a A).n = m.n := by rw [h.is, Me.st_n, h.mvn]
theorem Cp.cok (h : Cp m s a l A) : (m.cpm s a A).ok := by
  rw [h.is]
  exact Me.ok.st h.mvk _ _
theorem Cp.cwf (h : Cp m s a l A) : (m.cpm s a A).wf := by
  rw [h.is]
  exact h.mvw.st (adr_u64 h.rg.1 h.pl.1 h.pl.2.2.1) _
theorem Cp.ld (h : Cp m s a l A) {q : Int} (hq : ¬ tkn s a (m.wn A) q) (h1 : q ≠ A + 1) : (m.cpm s a A).ld q = m.ld q := by
  rw [h.is, st_other (Ne.symm h1), h.mvl hq]
theorem Cp.ldt (h : Cp m s a l A) : (m.cpm s a A).ld (A + 1) = adr s a := by
  rw [h.is]
  exact st_ld h.mvk ((there_n h.mvn _).2 h.off.2.2.1)
theorem Cp.kn' (h : Cp m s a l A) : (m.cpm s a A).kne A = 0 := (same_kne h.n (h.ld h.nt.1 (by omega))).trans h.kn
theorem Cp.tw' (h : Cp m s a l A) : (m.cpm s a A).twv A = adr s a := (if_pos h.kn').trans h.ldt

/-- Memory later: words that weren't 0, and aren't over there, are as they were. -/
structure La (s : Int) (m : Me) (a : Int) (m' : Me) (a' : Int) : Prop where
  n : m'.n = m.n
  ok : m'.ok
  wf : m'.wf
  le : a ≤ a'
  hi : a' ≤ m.n
  kp : ∀ q, ovb s q = false → m.ld q ≠ 0 → m'.ld q = m.ld q
theorem La.refl (ok : m.ok) (wf : m.wf) (h : a ≤ m.n) : La s m a m a := ⟨rfl, ok, wf, Int.le_refl _, h, fun _ _ _ => rfl⟩
theorem La.trans {m1 m2 : Me} {a1 a2 : Int} (h : La s m a m1 a1) (k : La s m1 a1 m2 a2) : La s m a m2 a2 :=
  ⟨k.n.trans h.n, k.ok, k.wf, Int.le_trans h.le k.le, by have := k.hi; rw [h.n] at this; exact this, fun q h1 h2 =>
    have e := h.kp q h1 h2
    (k.kp q h1 (by rw [e]; exact h2)).trans e⟩
theorem Cp.la (h : Cp m s a l A) : La s m a (m.cpm s a A) (a + m.wn A) := by
  have hp := h.pl
  have hw := h.wn
  refine ⟨h.n, h.cok, h.cwf, by omega, hp.2.1, fun q h1 h2 => h.ld (fun k => ?_) (fun e => ?_)⟩
  · unfold ovb at h1
    rw [k.1, decide_eq_true k.2.1] at h1
    cases h1
  · have := h.tw
    rw [show m.twv A = m.ld (A + 1) from if_pos h.kn, ← e] at this
    exact h2 this
/-- A head's word isn't 0. -/
theorem head_ne (h : m.kne A = 0) : m.ld A ≠ 0 := fun e => by
  have h1 := atok_rte (kne_0.1 h).1
  rw [e] at h1
  have := (rte_small (mpw_nn _) h1).1
  revert this
  decide
theorem La.head {m1 : Me} {a1 : Int} (k : La s m a m1 a1) (hm : m.ok) (h : m.kne A = 0) (ho : ovb s A = false) (ht : m.twv A ≠ 0) : m1.kne A = 0 ∧ m1.twv A = m.twv A := by
  have e0 := k.kp A ho (head_ne h)
  have h1 : m.twv A = m.ld (A + 1) := if_pos h
  have hoff := inn_off (j := 1) hm.2.1 (kne_inn h).1 (by omega) (by have := (kne_inn h).2; omega)
  have ho1 : ovb s (A + 1) = false := by
    have hb := kne_whb h
    have hne := ovb_no hb ho
    unfold ovb
    rw [hoff.1, decide_eq_false hne]
    simp
  have e1 := k.kp (A + 1) ho1 (by rw [← h1]; exact ht)
  exact ⟨(same_kne k.n e0).trans h, same_twv k.n e0 e1⟩

/-! ### To -/
theorem toa_cp (ok : m.ok) (wf : m.wf) (rg : rgt s a l) (hl : l = m.n) (h1 : m.kne A = 0) (h2 : ovb s A = false) (h3 : m.twv A = 0) (h4 : ¬ l - a < m.wn A) : Cp m s a l A :=
  ⟨ok, wf, rg, hl, h1, h2, h3, by omega⟩
/-- What To answers, case by case. -/
theorem toa_cases (ok : m.ok) (wf : m.wf) (rg : rgt s a l) (hl : l = m.n) :
    (A = 0 ∧ toa m s a l A = ⟨m, a, 0, 0⟩) ∨ (A ≠ 0 ∧ ovb s A = true ∧ m.kne A = 0 ∧ toa m s a l A = ⟨m, a, A, 0⟩)
      ∨ (A ≠ 0 ∧ (toa m s a l A).e ≠ 0 ∧ toa m s a l A = ⟨m, a, 0, (toa m s a l A).e⟩)
      ∨ (A ≠ 0 ∧ ovb s A = false ∧ m.kne A = 0 ∧ m.twv A ≠ 0 ∧ ovb s (m.twv A) = true ∧ toa m s a l A = ⟨m, a, m.twv A, 0⟩)
      ∨ (A ≠ 0 ∧ Cp m s a l A ∧ toa m s a l A = ⟨m.cpm s a A, a + m.wn A, adr s a, 0⟩) := by
  by_cases h0 : A = 0
  · exact .inl ⟨h0, if_pos h0⟩
  refine .inr ?_
  by_cases h1 : m.kne A = 0
  · by_cases h2 : ovb s A = true
    · exact .inl ⟨h0, h2, h1, by unfold toa; rw [if_neg h0, if_neg (by simp [h1]), if_pos h2]⟩
    · have h2' : ovb s A = false := by simpa using h2
      refine .inr ?_
      by_cases h3 : m.twv A = 0
      · by_cases h4 : l - a < m.wn A
        · have e : toa m s a l A = ⟨m, a, 0, 4⟩ := by unfold toa; rw [if_neg h0, if_neg (by simp [h1]), if_neg h2, if_neg (by simp [h3]), if_pos h4]
          exact .inl ⟨h0, by rw [e]; simp, by rw [e]⟩
        · exact .inr (.inr ⟨h0, toa_cp ok wf rg hl h1 h2' h3 h4, by unfold toa; rw [if_neg h0, if_neg (by simp [h1]), if_neg h2, if_neg (by simp [h3]), if_neg h4]⟩)
      · by_cases h5 : ovb s (m.twv A) = true
        · exact .inr (.inl ⟨h0, h2', h1, h3, h5, by unfold toa; rw [if_neg h0, if_neg (by simp [h1]), if_neg h2, if_pos h3, if_pos h5]⟩)
        · have e : toa m s a l A = ⟨m, a, 0, 10⟩ := by unfold toa; rw [if_neg h0, if_neg (by simp [h1]), if_neg h2, if_pos h3, if_neg h5]
          exact .inl ⟨h0, by rw [e]; simp, by rw [e]⟩
  · have e : toa m s a l A = ⟨m, a, 0, m.kne A⟩ := by unfold toa; rw [if_neg h0, if_pos h1]
    exact .inr (.inl ⟨h0, by rw [e]; exact h1, by rw [e]⟩)
theorem twv_u64 (wf : m.wf) (A : Int) : U64 (m.twv A) := by
  unfold Me.twv
  split
  · exact wf.ld _
  · exact u64_0
theorem toa_la (ok : m.ok) (wf : m.wf) (rg : rgt s a l) (hl : l = m.n) : La s m a (toa m s a l A).m (toa m s a l A).a := by
  have hr : La s m a m a := La.refl ok wf (by have := rg.2.2.1; omega)
  rcases toa_cases (A := A) ok wf rg hl with h | h | h | h | h
  · rw [h.2]; exact hr
  · rw [h.2.2.2]; exact hr
  · rw [h.2.2]; exact hr
  · rw [h.2.2.2.2.2]; exact hr
  · rw [h.2.2]; exact h.2.1.la
theorem toa_u64 (ok : m.ok) (wf : m.wf) (rg : rgt s a l) (hl : l = m.n) (hA : U64 A) : U64 (toa m s a l A).b := by
  rcases toa_cases (A := A) ok wf rg hl with h | h | h | h | h
  · rw [h.2]; exact u64_0
  · rw [h.2.2.2]; exact hA
  · rw [h.2.2]; exact u64_0
  · rw [h.2.2.2.2.2]; exact twv_u64 wf A
  · rw [h.2.2]; exact adr_u64 h.2.1.rg.1 h.2.1.pl.1 h.2.1.pl.2.2.1
theorem toa_no (ok : m.ok) (wf : m.wf) (rg : rgt s a l) (hl : l = m.n) (h : (toa m s a l A).e ≠ 0) : toa m s a l A = ⟨m, a, 0, (toa m s a l A).e⟩ := by
  rcases toa_cases (A := A) ok wf rg hl with k | k | k | k | k
  · rw [k.2] at h; exact absurd rfl h
  · rw [k.2.2.2] at h; exact absurd rfl h
  · exact k.2.2
  · rw [k.2.2.2.2.2] at h; exact absurd rfl h
  · rw [k.2.2] at h; exact absurd rfl h
theorem toa_self (ok : m.ok) (wf : m.wf) (rg : rgt s a l) (hl : l = m.n) (he : (toa m s a l A).e = 0) (h : A = 0 ∨ ovb s A = true) : (toa m s a l A).b = A := by
  rcases toa_cases (A := A) ok wf rg hl with k | k | k | k | k
  · rw [k.2]; exact k.1.symm
  · rw [k.2.2.2]
  · exact absurd he k.2.1
  · rcases h with h | h
    · exact absurd h k.1
    · rw [k.2.1] at h; cases h
  · rcases h with h | h
    · exact absurd h k.1
    · rw [k.2.1.ov] at h; cases h
theorem toa_got (ok : m.ok) (wf : m.wf) (rg : rgt s a l) (hl : l = m.n) (he : (toa m s a l A).e = 0) (h0 : A ≠ 0) (h1 : ovb s A = false) :
    (toa m s a l A).m.kne A = 0 ∧ (toa m s a l A).m.twv A = (toa m s a l A).b ∧ ovb s (toa m s a l A).b = true := by
  rcases toa_cases (A := A) ok wf rg hl with k | k | k | k | k
  · exact absurd k.1 h0
  · rw [k.2.1] at h1; cases h1
  · exact absurd he k.2.1
  · rw [k.2.2.2.2.2]
    exact ⟨k.2.2.1, rfl, k.2.2.2.2.1⟩
  · rw [k.2.2]
    exact ⟨k.2.1.kn', k.2.1.tw', ovb_adr k.2.1.rg.1 k.2.1.pl.1 k.2.1.pl.2.2.1⟩
end

/-! ### Each -/
structure Ea where
  m : Me
  a : Int
  ts : List Int
  e : Int
def eac (s l : Int) : List Int → Me → Int → Ea
  | [], m, a => ⟨m, a, [], 0⟩
  | A :: L, m, a => if (toa m s a l A).e = 0 then ⟨(eac s l L (toa m s a l A).m (toa m s a l A).a).m, (eac s l L (toa m s a l A).m (toa m s a l A).a).a, (toa m s a l A).b :: (eac s l L (toa m s a l A).m (toa m s a l A).a).ts, (eac s l L (toa m s a l A).m (toa m s a l A).a).e⟩ else ⟨m, a, [], (toa m s a l A).e⟩
section
variable {s l : Int}
theorem La.rg {m m1 : Me} {a a1 : Int} (k : La s m a m1 a1) (rg : rgt s a l) (hl : l = m.n) : rgt s a1 l ∧ l = m1.n := by
  have h1 := k.le
  have h2 := k.hi
  have h3 := k.n
  obtain ⟨r1, r2, r3, r4⟩ := rg
  exact ⟨⟨r1, by omega, by omega, r4⟩, by rw [h3]; exact hl⟩
theorem eac_la : ∀ (L : List Int) (m : Me) (a : Int), m.ok → m.wf → rgt s a l → l = m.n → La s m a (eac s l L m a).m (eac s l L m a).a
  | [], m, a, ok, wf, rg, hl => La.refl ok wf (by have := rg.2.2.1; omega)
  | A :: L, m, a, ok, wf, rg, hl => by
    have k := toa_la (A := A) ok wf rg hl
    obtain ⟨rg1, hl1⟩ := k.rg rg hl
    have k2 := eac_la L _ _ k.ok k.wf rg1 hl1
    unfold eac
    split
    · exact k.trans k2
    · exact La.refl ok wf (by have := rg.2.2.1; omega)
theorem eac_len : ∀ (L : List Int) (m : Me) (a : Int), (eac s l L m a).e = 0 → (eac s l L m a).ts.length = L.length
  | [], m, a, _ => rfl
  | A :: L, m, a, h => by
    unfold eac at h ⊢
    split
    · rename_i h1
      rw [if_pos h1] at h
      simp only [List.length_cons]
      rw [eac_len L _ _ h]
    · rename_i h1
      rw [if_neg h1] at h
      exact absurd h h1
/-- Each one's twin is that which it has behind all, unless it is over there. -/
theorem eac_at : ∀ (L : List Int) (m : Me) (a : Int), m.ok → m.wf → rgt s a l → l = m.n → (eac s l L m a).e = 0 → ∀ i, i < L.length →
    ((L.getD i 0 = 0 ∨ ovb s (L.getD i 0) = true) → (eac s l L m a).ts.getD i 0 = L.getD i 0)
      ∧ (L.getD i 0 ≠ 0 → ovb s (L.getD i 0) = false → (eac s l L m a).m.kne (L.getD i 0) = 0 ∧ (eac s l L m a).m.twv (L.getD i 0) = (eac s l L m a).ts.getD i 0 ∧ (eac s l L m a).ts.getD i 0 ≠ 0)
  | [], m, a, ok, wf, rg, hl, _, i, hi => absurd hi (by simp)
  | A :: L, m, a, ok, wf, rg, hl, he, i, hi => by
    have k := toa_la (A := A) ok wf rg hl
    obtain ⟨rg1, hl1⟩ := k.rg rg hl
    have k2 := eac_la L _ _ k.ok k.wf rg1 hl1
    unfold eac at he ⊢
    by_cases h1 : (toa m s a l A).e = 0
    · rw [if_pos h1] at he ⊢
      have ih := eac_at L _ _ k.ok k.wf rg1 hl1 he
      cases i with
      | zero =>
        refine ⟨fun h => ?_, fun h0 h2 => ?_⟩
        · exact toa_self ok wf rg hl h1 h
        · obtain ⟨g1, g2, g3⟩ := toa_got ok wf rg hl h1 h0 h2
          have hp := ovb_pos g3
          obtain ⟨f1, f2⟩ := k2.head k.ok g1 h2 (by rw [g2]; exact hp)
          exact ⟨f1, f2.trans g2, hp⟩
      | succ i => exact ih i (by simpa using hi)
    · rw [if_neg h1] at he
      exact absurd he h1
end
end Go.Proofs.Ytgcpkgogjcgfbaa
