/- One twin gone through, and how many aren't, said without the program; and what follows: where none was made the words behind the twin are as they were. What stands at a place and isn't gone through yet (scan.stands): contract. -/
import Derived.Test.YtmhnbnifoncodaaTwp
import Derived.Test.YtmhnbnifoncodaaHd7
import Derived.Test.YtmhnbnifoncodaaTw1
namespace Go.Proofs.Ytmhnbnifoncodaa
open Go.ChangeShapes Go.WideShapes Go.ChangeAt Go.RowKit
set_option linter.unusedVariables false
set_option linter.unusedSimpArgs false

theorem pts_fok {m : Me} {a : Int} {i : Nat} (h : i ∈ pts (m.atl a) (m.atm a)) : m.fok a i := by
  have hp : ptb (m.atl a) (m.atm a) i = true := (List.mem_filter.1 h).2
  unfold ptb at hp
  rw [Bool.and_eq_true, Bool.and_eq_true] at hp
  obtain ⟨h0, h1, h2⟩ := hp
  have h0 := of_decide_eq_true h0
  have h1 := of_decide_eq_true h1
  have hk : m.atok a := by
    by_cases hk : m.atok a
    · exact hk
    · rw [(at_no hk).2.1] at h1; omega
  have ht : m.att a ≠ 255 := fun ht => by
    obtain ⟨e1, e2, e3⟩ := at_of hk
    have := (rte_small (mpw_nn _) (atok_rte hk)).2.2.2.2.2
    rw [e1] at ht
    have hz : m.atm a = 0 := by rw [e3]; omega
    rw [hz] at h2
    simp at h2
  exact ⟨kne_0.2 ⟨hk, ht⟩, decide_eq_true ⟨h0, h1⟩⟩
theorem atm_65535 (m : Me) (a : Int) : m.atm a ≤ 65535 := by
  by_cases hk : m.atok a
  · rw [(at_of hk).2.2]
    have := (rte_small (mpw_nn _) (atok_rte hk)).2.2.2.2.1
    omega
  · rw [(at_no hk).2.2]; decide
theorem getv_u64 {m : Me} (hwf : m.wf) (a i : Int) : U64 (m.getv a i) := by
  unfold Me.getv
  split
  · exact hwf.ld _
  · exact u64_0
theorem at_rte {m : Me} {a : Int} (h : m.ate a = 0) : rte (m.att a) (m.atl a) (m.atm a) = 0 ∧ 0 ≤ m.atm a := by
  have hk := ate_0.1 h
  obtain ⟨e1, e2, e3⟩ := at_of hk
  rw [e1, e2, e3]
  exact ⟨atok_rte hk, mpw_nn _⟩

/-- The words of what stands there. -/
def Me.wz (m : Me) (a : Int) : Int := wdn (m.att a) (m.atl a)
/-- What stands at a place, and isn't gone through yet: the error. -/
def ste (m : Me) (s a p : Int) : Int :=
  if p < 0 ∨ a < p then 1 else if p = a then 9 else if m.ate (adr s p) ≠ 0 then m.ate (adr s p) else if a - p < m.wz (adr s p) then 10 else 0
theorem ste_0 {m : Me} {s a p : Int} (h : ste m s a p = 0) : 0 ≤ p ∧ p < a ∧ m.ate (adr s p) = 0 ∧ p + m.wz (adr s p) ≤ a := by
  unfold ste at h
  split at h
  · simp at h
  · split at h
    · simp at h
    · split at h
      · rename_i k; exact absurd h k
      · split at h
        · simp at h
        · rename_i h1 h2 h3 h4
          have h3 : m.ate (adr s p) = 0 := by
            rcases Classical.em (m.ate (adr s p) = 0) with q | q
            · exact q
            · exact absurd q h3
          exact ⟨by omega, by omega, h3, by omega⟩
theorem ste_wz {m : Me} {s a p : Int} (h : ste m s a p = 0) : 1 ≤ m.wz (adr s p) ∧ m.wz (adr s p) ≤ 65536 := by
  obtain ⟨h0, h1, h2, h3⟩ := ste_0 h
  obtain ⟨k1, k2⟩ := at_rte h2
  exact wdn_small k2 k1

/-! ### one twin -/
structure Sc where
  m : Me
  a : Int
  e : Int
/-- One pointer put right. -/
def rgs (m : Me) (s a l A i p : Int) : Sc :=
  if (toa m s a l p).e ≠ 0 then ⟨(toa m s a l p).m, (toa m s a l p).a, (toa m s a l p).e⟩
  else if (toa m s a l p).b = p then ⟨(toa m s a l p).m, (toa m s a l p).a, 0⟩
  else ⟨(toa m s a l p).m.setm A i (toa m s a l p).b, (toa m s a l p).a, (toa m s a l p).m.gete A i⟩
/-- Those of some fields, one behind the other; the words are those of memory as it was. -/
def scf (M : Me) (s l A : Int) : List Nat → Me → Int → Sc
  | [], m, a => ⟨m, a, 0⟩
  | i :: L, m, a => if (rgs m s a l A i (M.getv A i)).e = 0 then scf M s l A L (rgs m s a l A i (M.getv A i)).m (rgs m s a l A i (M.getv A i)).a else rgs m s a l A i (M.getv A i)
structure On where
  m : Me
  a : Int
  p : Int
  e : Int
def scr (m : Me) (s a l p : Int) : Sc := scf m s l (adr s p) (pts (m.atl (adr s p)) (m.atm (adr s p))) m a
def onf (m : Me) (s a l p : Int) : On :=
  if ste m s a p = 0 then (if (scr m s a l p).e = 0 then ⟨(scr m s a l p).m, (scr m s a l p).a, p + m.wz (adr s p), 0⟩ else ⟨(scr m s a l p).m, (scr m s a l p).a, p, (scr m s a l p).e⟩)
  else ⟨m, a, p, ste m s a p⟩

/-- What stays of a room: and where no twin was made but the object's fields all is as it was. -/
structure Ke (s A k : Int) (m : Me) (a : Int) (m' : Me) (a' : Int) : Prop where
  n : m'.n = m.n
  ok : m'.ok
  wf : m'.wf
  le : a ≤ a'
  hi : a' ≤ m.n
  kp : a' = a → ∀ q, q < A ∨ A + k ≤ q → m'.ld q = m.ld q
section
variable {m : Me} {s a l A k : Int}
theorem Ke.refl (ok : m.ok) (wf : m.wf) (h : a ≤ m.n) : Ke s A k m a m a := ⟨rfl, ok, wf, Int.le_refl _, h, fun _ _ _ => rfl⟩
theorem Ke.trans {m1 m2 : Me} {a1 a2 : Int} (h : Ke s A k m a m1 a1) (g : Ke s A k m1 a1 m2 a2) : Ke s A k m a m2 a2 :=
  ⟨g.n.trans h.n, g.ok, g.wf, Int.le_trans h.le g.le, by have := g.hi; rw [h.n] at this; exact this, fun e q hq => by
    have h1 := h.le
    have h2 := g.le
    exact (g.kp (by omega) q hq).trans (h.kp (by omega) q hq)⟩
theorem Ke.rg {m1 : Me} {a1 : Int} (h : Ke s A k m a m1 a1) (rg : rgt s a l) (hl : l = m.n) : rgt s a1 l ∧ l = m1.n := by
  have h1 := h.le
  have h2 := h.hi
  have h3 := h.n
  obtain ⟨r1, r2, r3, r4⟩ := rg
  exact ⟨⟨r1, by omega, by omega, r4⟩, by rw [h3]; exact hl⟩
theorem toa_ke (ok : m.ok) (wf : m.wf) (rg : rgt s a l) (hl : l = m.n) (p : Int) : Ke s A k m a (toa m s a l p).m (toa m s a l p).a := by
  have hr : Ke s A k m a m a := Ke.refl ok wf (by have := rg.2.2.1; omega)
  have hla := toa_la (A := p) ok wf rg hl
  rcases toa_cases (A := p) ok wf rg hl with h | h | h | h | h
  · rw [h.2]; exact hr
  · rw [h.2.2.2]; exact hr
  · rw [h.2.2]; exact hr
  · rw [h.2.2.2.2.2]; exact hr
  · refine ⟨hla.n, hla.ok, hla.wf, hla.le, hla.hi, fun e => ?_⟩
    rw [h.2.2] at e
    have := h.2.1.wn
    simp only at e
    omega
theorem rgs_ke (ok : m.ok) (wf : m.wf) (rg : rgt s a l) (hl : l = m.n) (i p : Int) (hp : U64 p) (h0 : 0 ≤ i) (h1 : 2 + i < k) : Ke s A k m a (rgs m s a l A i p).m (rgs m s a l A i p).a := by
  have K := toa_ke (A := A) (k := k) ok wf rg hl p
  have hb := toa_u64 ok wf rg hl hp
  unfold rgs
  split
  · exact K
  · split
    · exact K
    · refine K.trans ⟨set_n _ _ _ _, ?_, set_wf K.wf hb, Int.le_refl _, by rw [K.n]; exact K.hi, fun _ q hq => ?_⟩
      · unfold Me.setm
        split
        · exact K.ok.st _ _
        · exact K.ok
      · by_cases hf : (toa m s a l p).m.fok A i
        · exact set_ld hf q (by omega)
        · unfold Me.setm
          rw [if_neg hf]
theorem scf_ke {M : Me} (hM : M.wf) : ∀ (L : List Nat) (m : Me) (a : Int), m.ok → m.wf → rgt s a l → l = m.n → (∀ i ∈ L, (2 : Int) + i < k) → Ke s A k m a (scf M s l A L m a).m (scf M s l A L m a).a
  | [], m, a, ok, wf, rg, hl, _ => Ke.refl ok wf (by have := rg.2.2.1; omega)
  | i :: L, m, a, ok, wf, rg, hl, h => by
    have K := rgs_ke (A := A) (k := k) ok wf rg hl i (M.getv A i) (getv_u64 hM _ _) (by omega) (h i (by simp))
    obtain ⟨rg1, hl1⟩ := K.rg rg hl
    unfold scf
    split
    · exact K.trans (scf_ke hM L _ _ K.ok K.wf rg1 hl1 (fun j hj => h j (by simp [hj])))
    · exact K
theorem pts_lt {i : Nat} (h : i ∈ pts (m.atl A) (m.atm A)) : (2 : Int) + i < m.wz A := by
  have hf := pts_fok h
  have ht := (kne_0.1 hf.1).2
  have h2 := of_decide_eq_true (p := 0 ≤ (i : Int) ∧ (i : Int) < m.atl A) hf.2
  unfold Me.wz wdn
  rw [if_neg ht]
  omega
theorem scr_ke {p : Int} (ok : m.ok) (wf : m.wf) (rg : rgt s a l) (hl : l = m.n) : Ke s (adr s p) (m.wz (adr s p)) m a (scr m s a l p).m (scr m s a l p).a :=
  scf_ke wf _ m a ok wf rg hl (fun i hi => pts_lt hi)
theorem onf_ke {p : Int} (ok : m.ok) (wf : m.wf) (rg : rgt s a l) (hl : l = m.n) : Ke s (adr s p) (m.wz (adr s p)) m a (onf m s a l p).m (onf m s a l p).a := by
  unfold onf
  split
  · split
    · exact scr_ke ok wf rg hl
    · exact scr_ke ok wf rg hl
  · exact Ke.refl ok wf (by have := rg.2.2.1; omega)

/-! ### errors -/
theorem unl_is (b : Bool) (x : Int) : unl b x = 0 ∨ unl b x = x := by cases b <;> simp [unl]
theorem ate_is (m : Me) (A : Int) : m.ate A = 0 ∨ m.ate A = 2 ∨ m.ate A = 10 := by
  unfold Me.ate
  split
  · split
    · split
      · exact .inl rfl
      · exact .inr (.inl rfl)
    · exact .inr (.inr rfl)
  · exact .inr (.inl rfl)
theorem kne_9 (m : Me) (A : Int) : m.kne A ≠ 9 := by
  have h1 := ate_is m A
  have h2 := unl_is (m.att A != 255) 8
  unfold Me.kne
  split <;> omega
theorem gete_9 (m : Me) (A i : Int) : m.gete A i ≠ 9 := by
  have h1 := kne_9 m A
  have h2 := unl_is (hasb (m.atl A) i) 7
  unfold Me.gete
  split <;> omega
theorem toa_9 (m : Me) (s a l A : Int) : (toa m s a l A).e ≠ 9 := by
  have h1 := kne_9 m A
  unfold toa
  split
  · simp
  · split
    · exact h1
    · split
      · simp
      · split
        · split <;> simp
        · split <;> simp
theorem rgs_9 (m : Me) (s a l A i p : Int) : (rgs m s a l A i p).e ≠ 9 := by
  unfold rgs
  split
  · exact toa_9 m s a l p
  · split
    · simp
    · exact gete_9 _ _ _
theorem scf_9 (M : Me) (s l A : Int) : ∀ (L : List Nat) (m : Me) (a : Int), (scf M s l A L m a).e ≠ 9
  | [], m, a => by simp [scf]
  | i :: L, m, a => by
    unfold scf
    split
    · exact scf_9 M s l A L _ _
    · exact rgs_9 _ _ _ _ _ _ _
theorem onf_9 {p : Int} (h : (onf m s a l p).e = 9) : ste m s a p = 9 := by
  unfold onf at h
  split at h
  · split at h
    · simp at h
    · exact absurd h (scf_9 _ _ _ _ _ _ _)
  · exact h

/-! ### how many -/
def gry (m : Me) (s a : Int) : Nat → Int → Int → Int
  | 0, _, _ => -1
  | f + 1, p, n => if ste m s a p = 0 then gry m s a f (p + m.wz (adr s p)) (n + 1) else if ste m s a p = 9 then n else -1
theorem gry_fuel : ∀ (f g : Nat) (p n : Int), (a - p).toNat < f → (a - p).toNat < g → gry m s a f p n = gry m s a g p n
  | 0, g, p, n, h, _ => absurd h (by omega)
  | f + 1, 0, p, n, _, h => absurd h (by omega)
  | f + 1, g + 1, p, n, h1, h2 => by
    unfold gry
    split
    · rename_i h
      have := ste_0 h
      have := (ste_wz h).1
      exact gry_fuel f g _ _ (by omega) (by omega)
    · rfl
theorem gry_more : ∀ (f : Nat) (p n : Int), 0 ≤ n → (gry m s a f p n = -1 ∧ gry m s a f p (n + 1) = -1) ∨ (n ≤ gry m s a f p n ∧ gry m s a f p (n + 1) = gry m s a f p n + 1)
  | 0, p, n, h => .inl ⟨rfl, rfl⟩
  | f + 1, p, n, h => by
    unfold gry
    split
    · rcases gry_more f (p + m.wz (adr s p)) (n + 1) (by omega) with q | q
      · exact .inl q
      · exact .inr ⟨by omega, q.2⟩
    · split
      · exact .inr ⟨Int.le_refl _, rfl⟩
      · exact .inl ⟨rfl, rfl⟩
theorem gry_bd : ∀ (f : Nat) (p n : Int), -1 ≤ n → -1 ≤ gry m s a f p n ∧ gry m s a f p n ≤ n + f
  | 0, p, n, h => by unfold gry; omega
  | f + 1, p, n, h => by
    unfold gry
    split
    · have := gry_bd f (p + m.wz (adr s p)) (n + 1) (by omega)
      omega
    · split <;> omega
theorem gry_same {m' : Me} (hs : s = 0 ∨ s = 1) (hn : m'.n = m.n) (q : Int) (hk : ∀ p, q ≤ p → p < a → m'.ld (adr s p) = m.ld (adr s p)) : ∀ (f : Nat) (p n : Int), q ≤ p → gry m' s a f p n = gry m s a f p n
  | 0, p, n, h => rfl
  | f + 1, p, n, h => by
    have hst : ste m' s a p = ste m s a p ∧ (p < a → m'.wz (adr s p) = m.wz (adr s p)) := by
      by_cases hpa : p < a
      · have hld := hk p h hpa
        obtain ⟨e1, e2, e3⟩ := same_at hn hld
        have e4 := same_ate hn hld
        have e5 : m'.wz (adr s p) = m.wz (adr s p) := by unfold Me.wz; rw [e1, e2]
        exact ⟨by unfold ste; rw [e4, e5], fun _ => e5⟩
      · refine ⟨?_, fun h => absurd h hpa⟩
        unfold ste
        by_cases h1 : p < 0 ∨ a < p
        · rw [if_pos h1, if_pos h1]
        · rw [if_neg h1, if_neg h1, if_pos (by omega), if_pos (by omega)]
    unfold gry
    rw [hst.1]
    split
    · rename_i h0
      have h1 := ste_0 h0
      have h2 := (ste_wz h0).1
      rw [hst.2 h1.2.1]
      exact gry_same hs hn q hk f _ _ (by omega)
    · rfl
theorem adr_le {s p q k : Int} (h : p + k ≤ q) : adr s p + k ≤ adr s q := by unfold adr; omega
/-- What the statement says. -/
theorem grey_less {p : Int} (ok : m.ok) (wf : m.wf) (rg : rgt s a l) (hl : l = m.n) (f g : Nat) (hf : (a - p).toNat < f) (hg : (a - (onf m s a l p).p).toNat < g)
    (he : (onf m s a l p).e = 0) (ha : (onf m s a l p).a = a) (h0 : 0 ≤ gry m s a f p 0) : gry (onf m s a l p).m s a g (onf m s a l p).p 0 = gry m s a f p 0 - 1 := by
  have K := onf_ke (p := p) ok wf rg hl
  have hst : ste m s a p = 0 := by
    unfold onf at he
    split at he
    · assumption
    · exact absurd he (by assumption)
  have hp : (onf m s a l p).p = p + m.wz (adr s p) := by
    unfold onf at he ⊢
    rw [if_pos hst] at he ⊢
    split
    · rfl
    · rename_i k
      rw [if_neg k] at he
      exact absurd he k
  have hw := ste_wz hst
  have h1 := ste_0 hst
  cases f with
  | zero => omega
  | succ f =>
    rw [hp] at hg ⊢
    have e1 : gry m s a (f + 1) p 0 = gry m s a f (p + m.wz (adr s p)) 1 := by
      conv => lhs; unfold gry
      rw [if_pos hst]
      rfl
    rw [gry_same rg.1 K.n (p + m.wz (adr s p)) (fun q h2 h3 => K.kp ha _ (.inr (adr_le h2))) g _ _ (Int.le_refl _)]
    rw [e1] at h0 ⊢
    rw [gry_fuel g f _ _ hg (by omega)]
    rcases gry_more (m := m) (s := s) (a := a) f (p + m.wz (adr s p)) 0 (by omega) with q | q
    · have : gry m s a f (p + m.wz (adr s p)) 1 = -1 := q.2
      omega
    · have : gry m s a f (p + m.wz (adr s p)) 1 = gry m s a f (p + m.wz (adr s p)) 0 + 1 := q.2
      omega
theorem grey_none {p : Int} (f : Nat) (hf : (a - p).toNat < f) (he : (onf m s a l p).e = 9) : gry m s a f p 0 = 0 := by
  have h := onf_9 he
  cases f with
  | zero => omega
  | succ f =>
    unfold gry
    rw [if_neg (by rw [h]; decide), if_pos h]
end
end Go.Proofs.Ytmhnbnifoncodaa
namespace Go.Proofs.Ytmhnbnifoncodaa
open Go.ChangeShapes Go.WideShapes Go.ChangeAt Go.RowKit
set_option linter.unusedVariables false
set_option linter.unusedSimpArgs false

theorem Blk.far3 {w : World} {g k : Nat} {t : TypeId} {cs : Array Value} (h : Blk w g t cs) (hne : g ≠ k) (u0 u1 u2 : Value) : Blk (((w.setCell ⟨k, 0, none⟩ u0).setCell ⟨k, 1, none⟩ u1).setCell ⟨k, 2, none⟩ u2) g t cs :=
  ((h.far (p := ⟨k, 0, none⟩) hne u0).far (p := ⟨k, 1, none⟩) hne u1).far (p := ⟨k, 2, none⟩) hne u2
theorem ret_head {fn : Func} {p u : Tmp} (h : fn.results = #[.cell p 43, .tmp u]) (tmps : Array Value) (w : World) (g : Nat) (t l mp : Int) (e : Value)
    (hp : tmps.getD p undef = .pointer (some ⟨g, 0, none⟩)) (hg : Blk w g 43 (hcs t l mp)) (he : tmps.getD u undef = e) :
    (results fn tmps).run Try.prog w = .ok (.tuple #[hdv t l mp, e]) w := by
  have hp' : tmps[p]?.getD undef = .pointer (some ⟨g, 0, none⟩) := by simpa using hp
  have he' : tmps[u]?.getD undef = e := by simpa using he
  simp [results, h, hp', he', asAddr, run_loadVar_row w g 43 43 _ _ _ hg Try.underlying43 rfl (by kernel_rfl)]

set_option maxRecDepth 100000 in
set_option maxHeartbeats 4000000 in
theorem stands_lo (n s a l x y p : Int) (MA MB : Value) (w : World) (h : p < 0) :
    Calls Try.prog 12 #[rov n MA MB s a l x y, .int .i64 p] w fun e w' => e = .returned (.tuple #[hdv 0 0 0, .int .i64 1]) ∧ Up w w' := by
  have d0 : decide (p < 0) = true := decide_eq_true h
  clear h
  go_enter Try.func12, Try.ntmps12
  go_wp2
  exact bodyPost_ret (ret_head rfl _ _ _ 0 0 0 _ rfl (Blk.new' _ (by simp) _ _) rfl) rfl ⟨rfl, ((Up.refl w).alloc _).alloc _⟩
set_option maxRecDepth 100000 in
set_option maxHeartbeats 4000000 in
theorem stands_hi (n s a l x y p : Int) (MA MB : Value) (w : World) (h0 : 0 ≤ p) (h : a < p) :
    Calls Try.prog 12 #[rov n MA MB s a l x y, .int .i64 p] w fun e w' => e = .returned (.tuple #[hdv 0 0 0, .int .i64 1]) ∧ Up w w' := by
  have d0 : decide (p < 0) = false := decide_eq_false (by omega)
  have d1 : decide (a < p) = true := decide_eq_true h
  clear h h0
  go_enter Try.func12, Try.ntmps12
  go_wp2
  exact bodyPost_ret (ret_head rfl _ _ _ 0 0 0 _ rfl (Blk.new' _ (by simp) _ _) rfl) rfl ⟨rfl, ((Up.refl w).alloc _).alloc _⟩
set_option maxRecDepth 100000 in
set_option maxHeartbeats 4000000 in
theorem stands_end (n s a l x y p : Int) (MA MB : Value) (w : World) (h0 : 0 ≤ p) (h : p = a) :
    Calls Try.prog 12 #[rov n MA MB s a l x y, .int .i64 p] w fun e w' => e = .returned (.tuple #[hdv 0 0 0, .int .i64 9]) ∧ Up w w' := by
  subst h
  have d0 : decide (p < 0) = false := decide_eq_false (by omega)
  have d1 : decide (p < p) = false := decide_eq_false (by omega)
  clear h0
  go_enter Try.func12, Try.ntmps12
  go_wp2
  exact bodyPost_ret (ret_head rfl _ _ _ 0 0 0 _ rfl (Blk.new' _ (by simp) _ _) rfl) rfl ⟨rfl, ((Up.refl w).alloc _).alloc _⟩

set_option maxRecDepth 100000 in
set_option maxHeartbeats 4000000 in
theorem stands_bad (m : Me) (s a l x y p k : Int) (P Q : Addr) (c d : Nat) (w : World) (hm : Sits w m P Q c d) (hwf : m.wf) (hr : rgt s a l) (hl : l = m.n) (h0 : 0 ≤ p) (h1 : p < a) (hk : m.ate (adr s p) = k) (hk0 : k ≠ 0) :
    Calls Try.prog 12 #[rov m.n (sl P m.n c) (sl Q m.n d) s a l x y, .int .i64 p] w fun e w' => e = .returned (.tuple #[hdv 0 0 0, .int .i64 k]) ∧ Up w w' := by
  have d0 : decide (p < 0) = false := decide_eq_false (by omega)
  have d1 : decide (a < p) = false := decide_eq_false (by omega)
  have d2 : (p == a) = false := beq_eq_false_iff_ne.2 (by omega)
  have d3 : (k != 0) = true := bne_iff_ne.2 hk0
  have hsp : spot s p := ⟨hr.1, h0, by have := hr.2.2; omega⟩
  have had := Lib.hid (fun w => addr_ok s p hsp w)
  have hau := adr_u64 hr.1 h0 (by have := hr.2.2; omega)
  have hat := Lib.hid (fun (W : World) (U : Up w W) => at_any m (adr s p) P Q c d W (hm.up U) hau hwf)
  rw [hk] at hat
  generalize m.att (adr s p) = t at hat
  generalize m.atl (adr s p) = lo at hat
  generalize m.atm (adr s p) = mp at hat
  generalize adr s p = A at had hat
  clear hm hwf hr hl h0 h1 hk hk0 hsp hau
  go_enter Try.func12, Try.ntmps12
  go_wp2_with (fail)
  obtain ⟨W0, hW0⟩ : ∃ W0 : World, W0 = (w.alloc (.cells (roc m.n (sl P m.n c) (sl Q m.n d) s a l x y) 31)).alloc (.cells (hcs 0 0 0) 43) := ⟨_, rfl⟩
  have U0 : Up w W0 := by rw [hW0]; exact ((Up.refl w).alloc _).alloc _
  have X0 : Blk W0 w.heap.size 31 (roc m.n (sl P m.n c) (sl Q m.n d) s a l x y) := by rw [hW0]; exact (Blk.new' w rfl _ _).alloc _
  have H0 : Blk W0 (w.heap.size + 1) 43 (hcs 0 0 0) := by rw [hW0]; exact Blk.new' _ (by simp) _ _
  rw [← hW0]
  clear hW0
  have j1 : w.heap.size ≠ W0.heap.size := by have := X0.lt; omega
  have j2 : w.heap.size + 1 ≠ W0.heap.size := by have := H0.lt; omega
  go_region_held3 (fun w' => ∀ i, w'.cell? ⟨w.heap.size, i, none⟩ = (#[.int .i64 m.n, sl P m.n c, sl Q m.n d, .int .i64 s, .int .i64 a, .int .i64 l, .int .i64 x, .int .i64 y] : Array Value)[i]?)
    (first
      | with_reducible exact fun i => X0.cell i
      | with_reducible exact fun i => X0.drew.cell i
      | with_reducible exact fun i => (X0.alloc _).drew.cell i
      | with_reducible exact fun i => (Blk.up X0 (by assumption)).cell i
      | with_reducible exact fun i => ((Blk.up X0 (by assumption)).alloc _).cell i
      | with_reducible exact fun i => ((Blk.up X0 (by assumption)).far3 j1 _ _ _).cell i)
    (first
      | (go_at_call 13; ((with_reducible refine (had.out _).mono ?_); rintro e wz ⟨rfl, rfl⟩))
      | (go_at_call 28; ((with_reducible refine (hat.out _ U0.drew).mono ?_); rintro e wz ⟨rfl, hz⟩; have UZ : Up W0 wz := (Up.refl W0).drew.trans hz))
      | (go_at_call 28; ((with_reducible refine (hat.out _ (U0.alloc _).drew).mono ?_); rintro e wz ⟨rfl, hz⟩; have UZ : Up W0 wz := ((Up.refl W0).alloc _).drew.trans hz; have HN := ((Blk.new W0 43 (hcs 0 0 0)).drew).up hz; have HNc := HN.cell; have HNf := HN.frozen; have HNl := HN.lt)))
  all_goals
    have HZ := H0.up UZ
    have HZc := HZ.cell
    have HZf := HZ.frozen
    have HZl := HZ.lt
    have US := UZ.size
    have UU := U0.size
    go_wp2_with (fail)
    refine bodyPost_ret (ret_head rfl _ _ _ 0 0 0 _ rfl ?_ rfl) rfl ⟨rfl, ?_⟩
    · first
        | with_reducible exact (HZ.set3 _ _ _).alloc _
        | with_reducible exact (HZ.far3 j2 _ _ _).set3 _ _ _
    · first
        | with_reducible exact ((U0.trans UZ).set3 (g := w.heap.size + 1) (by omega) _ _ _).alloc _
        | with_reducible exact ((U0.trans UZ).set3 (g := W0.heap.size) UU _ _ _).set3 (g := w.heap.size + 1) (by omega) _ _ _
set_option maxRecDepth 100000 in
set_option maxHeartbeats 4000000 in
theorem stands_in (m : Me) (s a l x y p : Int) (b : Bool) (P Q : Addr) (c d : Nat) (w : World) (hm : Sits w m P Q c d) (hwf : m.wf) (hr : rgt s a l) (hl : l = m.n) (h0 : 0 ≤ p) (h1 : p < a) (hk : m.ate (adr s p) = 0) (hb : decide (p + m.wz (adr s p) ≤ a) = b) :
    Calls Try.prog 12 #[rov m.n (sl P m.n c) (sl Q m.n d) s a l x y, .int .i64 p] w fun e w' => e = .returned (.tuple #[if b then hdv (m.att (adr s p)) (m.atl (adr s p)) (m.atm (adr s p)) else hdv 0 0 0, .int .i64 (if b then 0 else 10)]) ∧ Up w w' := by
  have d0 : decide (p < 0) = false := decide_eq_false (by omega)
  have d1 : decide (a < p) = false := decide_eq_false (by omega)
  have d2 : (p == a) = false := beq_eq_false_iff_ne.2 (by omega)
  obtain ⟨hrt, hmp⟩ := at_rte hk
  have hws := wdn_small hmp hrt
  have hwd := Lib.hid (fun w => words_any (m.att (adr s p)) (m.atl (adr s p)) (m.atm (adr s p)) hmp hrt w)
  have hft := Lib.hid (fun w => show Calls Try.prog 29 #[.int .i64 p, .int .i64 (wdn (m.att (adr s p)) (m.atl (adr s p))), .int .i64 a] w fun e w' => e = .returned (.bool b) ∧ Up w w' from by
    have r2 := hr.2
    have h := fits_any p (wdn (m.att (adr s p)) (m.atl (adr s p))) a ⟨by omega, by omega⟩ ⟨by omega, by omega⟩ ⟨by omega, by omega⟩ w
    rw [show fitb p (wdn (m.att (adr s p)) (m.atl (adr s p))) a = b from by rw [← hb]; exact decide_eq_decide.2 ⟨fun q => q.2.2, fun q => ⟨h0, by omega, q⟩⟩] at h
    exact h)
  have hsp : spot s p := ⟨hr.1, h0, by have := hr.2.2; omega⟩
  have had := Lib.hid (fun w => addr_ok s p hsp w)
  have hau := adr_u64 hr.1 h0 (by have := hr.2.2; omega)
  have hat := Lib.hid (fun (W : World) (U : Up w W) => at_any m (adr s p) P Q c d W (hm.up U) hau hwf)
  rw [hk] at hat
  generalize wdn (m.att (adr s p)) (m.atl (adr s p)) = n at hwd hft
  generalize m.att (adr s p) = t at hat hwd ⊢
  generalize m.atl (adr s p) = lo at hat hwd ⊢
  generalize m.atm (adr s p) = mp at hat hwd ⊢
  generalize adr s p = A at had hat
  clear hm hwf hr hl h0 h1 hk hb hsp hau hrt hmp hws
  go_enter Try.func12, Try.ntmps12
  go_wp2_with (fail)
  obtain ⟨W0, hW0⟩ : ∃ W0 : World, W0 = (w.alloc (.cells (roc m.n (sl P m.n c) (sl Q m.n d) s a l x y) 31)).alloc (.cells (hcs 0 0 0) 43) := ⟨_, rfl⟩
  have U0 : Up w W0 := by rw [hW0]; exact ((Up.refl w).alloc _).alloc _
  have X0 : Blk W0 w.heap.size 31 (roc m.n (sl P m.n c) (sl Q m.n d) s a l x y) := by rw [hW0]; exact (Blk.new' w rfl _ _).alloc _
  have H0 : Blk W0 (w.heap.size + 1) 43 (hcs 0 0 0) := by rw [hW0]; exact Blk.new' _ (by simp) _ _
  rw [← hW0]
  clear hW0
  have j1 : w.heap.size ≠ W0.heap.size := by have := X0.lt; omega
  have j2 : w.heap.size + 1 ≠ W0.heap.size := by have := H0.lt; omega
  go_region_held3 (fun w' => ∀ i, w'.cell? ⟨w.heap.size, i, none⟩ = (#[.int .i64 m.n, sl P m.n c, sl Q m.n d, .int .i64 s, .int .i64 a, .int .i64 l, .int .i64 x, .int .i64 y] : Array Value)[i]?)
    (first
      | with_reducible exact fun i => X0.cell i
      | with_reducible exact fun i => X0.drew.cell i
      | with_reducible exact fun i => (X0.alloc _).drew.cell i
      | with_reducible exact fun i => (Blk.up X0 (by assumption)).cell i
      | with_reducible exact fun i => ((Blk.up X0 (by assumption)).alloc _).cell i
      | with_reducible exact fun i => ((Blk.up X0 (by assumption)).far3 j1 _ _ _).cell i)
    (first
      | (go_at_call 13; ((with_reducible refine (had.out _).mono ?_); rintro e wz ⟨rfl, rfl⟩))
      | (go_at_call 28; ((with_reducible refine (hat.out _ U0.drew).mono ?_); rintro e wz ⟨rfl, hz⟩; have UZ : Up W0 wz := (Up.refl W0).drew.trans hz))
      | (go_at_call 28; ((with_reducible refine (hat.out _ (U0.alloc _).drew).mono ?_); rintro e wz ⟨rfl, hz⟩; have UZ : Up W0 wz := ((Up.refl W0).alloc _).drew.trans hz; have HN := ((Blk.new W0 43 (hcs 0 0 0)).drew).up hz; have HNc := HN.cell; have HNf := HN.frozen; have HNl := HN.lt)))
  all_goals
    have XZ := X0.up UZ
    have HZ := H0.up UZ
    have US := UZ.size
    have UU := U0.size
    have SL := H0.lt
    first
      | with_reducible refine gen_exit (Y := fun W => (Blk W w.heap.size 31 (roc m.n (sl P m.n c) (sl Q m.n d) s a l x y) ∧ Blk W (w.heap.size + 1) 43 (hcs 0 0 0)) ∧ Blk W wz.heap.size 43 (hcs t lo mp) ∧ Up w W) ⟨⟨XZ.alloc _, HZ.alloc _⟩, Blk.new _ _ _, (U0.trans UZ).alloc _⟩ ?_
      | with_reducible refine gen_exit (Y := fun W => (Blk W w.heap.size 31 (roc m.n (sl P m.n c) (sl Q m.n d) s a l x y) ∧ Blk W (w.heap.size + 1) 43 (hcs 0 0 0)) ∧ Blk W W0.heap.size 43 (hcs t lo mp) ∧ Up w W) ⟨⟨XZ.far3 j1 _ _ _, HZ.far3 j2 _ _ _⟩, HN.set3 _ _ _, (U0.trans UZ).set3 (g := W0.heap.size) UU _ _ _⟩ ?_
    rintro W ⟨⟨X6, H6⟩, N6, U6⟩
    clear XZ HZ X0 H0 U0 j1 j2 had hat d0 d1 d2
    first
      | (have N7 : Blk W wz.heap.size 43 (hcs t lo mp) := by with_reducible exact N6
         have jN : w.heap.size + 1 ≠ wz.heap.size := by omega
         generalize wz.heap.size = gN at N6 N7 jN ⊢)
      | (have N7 : Blk W W0.heap.size 43 (hcs t lo mp) := by with_reducible exact N6
         have jN : w.heap.size + 1 ≠ W0.heap.size := by omega
         clear HN HNc HNf HNl
         generalize W0.heap.size = gN at N6 N7 jN ⊢)
    clear N7
    have X6c := X6.cell
    have N6c := N6.cell
    have N6l := N6.lt
    go_wp2_with (fail)
    go_region_held3 (fun w' => (∀ i, w'.cell? ⟨w.heap.size, i, none⟩ = (#[.int .i64 m.n, sl P m.n c, sl Q m.n d, .int .i64 s, .int .i64 a, .int .i64 l, .int .i64 x, .int .i64 y] : Array Value)[i]?) ∧ (∀ i, w'.cell? ⟨gN, i, none⟩ = (#[.int .i64 t, .int .i64 lo, .int .u64 mp] : Array Value)[i]?))
      (first
        | with_reducible exact ⟨fun i => X6.cell i, fun i => N6.cell i⟩
        | with_reducible exact ⟨fun i => X6.drew.cell i, fun i => N6.drew.cell i⟩
        | with_reducible exact ⟨fun i => (Blk.up X6 (by assumption)).cell i, fun i => (Blk.up N6 (by assumption)).cell i⟩)
      (first
        | (go_at_call 18; ((with_reducible refine (hwd.out _).mono ?_); rintro e wa ⟨rfl, hza⟩; have UA : Up W wa := (Up.refl W).drew.trans hza))
        | (go_at_call 29; ((with_reducible refine (hft.out _).mono ?_); rintro e wb ⟨rfl, hzb⟩; have UB : Up W wb := UA.trans hzb)))
    have H8 := H6.up UB
    have N8 := N6.up UB
    have H8c := H8.cell
    have H8f := H8.frozen
    have H8l := H8.lt
    have N8c := N8.cell
    have N8l := N8.lt
    have U8 := U6.trans UB
    cases b
    · go_wp2_with (fail)
      refine bodyPost_ret (ret_head rfl _ _ _ 0 0 0 _ rfl ?_ rfl) rfl ⟨rfl, ?_⟩
      · with_reducible exact H8.set3 _ _ _
      · with_reducible exact U8.set3 (g := w.heap.size + 1) (by omega) _ _ _
    · go_wp2_with (fail)
      refine bodyPost_ret (ret_head rfl _ _ _ t lo mp _ rfl ?_ rfl) rfl ⟨rfl, ?_⟩
      · with_reducible exact H8.set3 _ _ _
      · with_reducible exact U8.set3 (g := w.heap.size + 1) (by omega) _ _ _

/-- What stands there: the head that is told. -/
def sth (m : Me) (s a p : Int) : Value := if ste m s a p = 0 then hdv (m.att (adr s p)) (m.atl (adr s p)) (m.atm (adr s p)) else hdv 0 0 0
theorem stands_any (m : Me) (s a l x y p : Int) (P Q : Addr) (c d : Nat) (w : World) (hm : Sits w m P Q c d) (hwf : m.wf) (hr : rgt s a l) (hl : l = m.n) :
    Calls Try.prog 12 #[rov m.n (sl P m.n c) (sl Q m.n d) s a l x y, .int .i64 p] w fun e w' => e = .returned (.tuple #[sth m s a p, .int .i64 (ste m s a p)]) ∧ Up w w' := by
  by_cases h0 : p < 0
  · have e1 : ste m s a p = 1 := if_pos (.inl h0)
    unfold sth
    rw [e1, if_neg (by decide)]
    exact stands_lo m.n s a l x y p _ _ w h0
  · by_cases h1 : a < p
    · have e1 : ste m s a p = 1 := if_pos (.inr h1)
      unfold sth
      rw [e1, if_neg (by decide)]
      exact stands_hi m.n s a l x y p _ _ w (by omega) h1
    · by_cases h2 : p = a
      · have e1 : ste m s a p = 9 := (if_neg (by omega)).trans (if_pos h2)
        unfold sth
        rw [e1, if_neg (by decide)]
        exact stands_end m.n s a l x y p _ _ w (by omega) h2
      · by_cases h3 : m.ate (adr s p) = 0
        · have hi := stands_in m s a l x y p (decide (p + m.wz (adr s p) ≤ a)) P Q c d w hm hwf hr hl (by omega) (by omega) h3 rfl
          by_cases h4 : p + m.wz (adr s p) ≤ a
          · have e1 : ste m s a p = 0 := (if_neg (by omega)).trans ((if_neg h2).trans ((if_neg (fun q => q h3)).trans (if_neg (by omega))))
            rw [decide_eq_true h4] at hi
            unfold sth
            rw [e1, if_pos rfl]
            exact hi
          · have e1 : ste m s a p = 10 := (if_neg (by omega)).trans ((if_neg h2).trans ((if_neg (fun q => q h3)).trans (if_pos (by omega))))
            rw [decide_eq_false h4] at hi
            unfold sth
            rw [e1, if_neg (by decide)]
            exact hi
        · have e1 : ste m s a p = m.ate (adr s p) := (if_neg (by omega)).trans ((if_neg h2).trans (if_pos h3))
          unfold sth
          rw [e1, if_neg h3]
          exact stands_bad m s a l x y p _ P Q c d w hm hwf hr hl (by omega) (by omega) rfl h3
end Go.Proofs.Ytmhnbnifoncodaa
