/- Plain facts on walks: what is told stands side by side; what is reached. -/
import Derived.Test.YtmjadmoadedghaaWk11
namespace Go.Proofs.Ytmjadmoadedghaa
open Go.Joins Go.ChangeShapes Go.WideShapes Go.ChangeAt Go.RowKit Go.Deep
set_option linter.unusedVariables false
set_option linter.unusedSimpArgs false

/-! ### What is told -/
/-- Objects stand side by side from a place to another. -/
def Me.chn (m : Me) (s : Int) : List Int → Int → Int → Prop
  | [], p, q => p = q
  | a :: r, p, q => a = adr s p ∧ m.ate a = 0 ∧ 0 ≤ p ∧ p < q ∧ m.chn s r (p + m.wsz a) q
theorem seqn_chn {m : Me} {s lim : Int} : ∀ (f : Nat) (p : Int), 0 ≤ p → p ≤ lim → (lim - p).toNat < f → ers (m.seqn s lim f p) = 0 → m.chn s (pick wAll (m.seqn s lim f p)) p lim ∧ ∀ x ∈ m.seqn s lim f p, x.e = 0 ∧ ∃ q, 0 ≤ q ∧ q < lim ∧ x.a = adr s q ∧ m.ate x.a = 0 ∧ x.t = m.att x.a
  | 0, p, _, _, h, _ => by omega
  | f + 1, p, h0, h1, hf, he => by
    by_cases hlt : p < lim
    · by_cases hk : m.wne (adr s p) (lim - p) = 0
      · rw [seqn_yes hlt hk] at he ⊢
        obtain ⟨k1, k2⟩ := wne_0.1 hk
        have k3 := wsz_small k1
        obtain ⟨i1, i2⟩ := seqn_chn f (p + m.wsz (adr s p)) (by omega) (by omega) (by omega) ((if_pos rfl).symm.trans he)
        refine ⟨⟨rfl, k1, h0, hlt, i1⟩, fun x hx => ?_⟩
        rcases List.mem_cons.1 hx with rfl | hx
        · exact ⟨rfl, p, h0, hlt, rfl, k1, rfl⟩
        · exact i2 x hx
      · rw [seqn_no hlt hk] at he
        exact absurd ((if_neg hk).symm.trans he) hk
    · rw [seqn_end (by omega)]
      exact ⟨show p = lim by omega, fun x hx => by cases hx⟩
theorem tle_vld {m : Me} {s lim : Int} (h : m.tle s lim = 0) : m.vld s lim ∧ ers (m.sq s lim) = 0 := by
  by_cases hv : m.vld s lim
  · exact ⟨hv, (if_pos hv).symm.trans h⟩
  · rw [show m.tle s lim = 1 from if_neg hv] at h
    cases h
theorem tll_is {m : Me} {s lim : Int} (wn : Th → Bool) (h : m.tle s lim = 0) : m.tll wn s lim = pick wn (m.sq s lim) := if_pos h
theorem tll_no {m : Me} {s lim : Int} (wn : Th → Bool) (h : m.tle s lim ≠ 0) : m.tll wn s lim = [] := if_neg h
theorem all_chn {m : Me} {s lim : Int} (h : m.tle s lim = 0) : m.chn s (m.tll wAll s lim) 0 lim := by
  obtain ⟨hv, he⟩ := tle_vld h
  rw [tll_is _ h]
  exact (seqn_chn (lim.toNat + 1) 0 (Int.le_refl 0) hv.2.1 (by omega) he).1
theorem sq_facts {m : Me} {s lim : Int} (h : m.tle s lim = 0) : ∀ x ∈ m.sq s lim, x.e = 0 ∧ ∃ q, 0 ≤ q ∧ q < lim ∧ x.a = adr s q ∧ m.ate x.a = 0 ∧ x.t = m.att x.a := by
  obtain ⟨hv, he⟩ := tle_vld h
  exact (seqn_chn (lim.toNat + 1) 0 (Int.le_refl 0) hv.2.1 (by omega) he).2
theorem tll_mem {m : Me} {s lim : Int} {wn : Th → Bool} {a : Int} (h : a ∈ m.tll wn s lim) : m.tle s lim = 0 ∧ ∃ x ∈ m.sq s lim, wn x = true ∧ x.a = a := by
  by_cases he : m.tle s lim = 0
  · rw [tll_is _ he] at h
    obtain ⟨x, hx, rfl⟩ := List.mem_map.1 h
    obtain ⟨h1, h2⟩ := List.mem_filter.1 hx
    exact ⟨he, x, h1, h2, rfl⟩
  · rw [tll_no _ he] at h
    cases h
theorem tll_u64 {m : Me} {s lim : Int} {wn : Th → Bool} (hn : m.n ≤ 4096) : ∀ a ∈ m.tll wn s lim, U64 a := by
  intro a ha
  obtain ⟨he, x, hx, _, rfl⟩ := tll_mem ha
  obtain ⟨_, q, q0, q1, e, _⟩ := sq_facts he x hx
  obtain ⟨hv, _⟩ := tle_vld he
  have := hv.2.2
  rw [e]
  exact adr_u64 hv.1 q0 (by omega)
theorem tll_len (m : Me) (s lim : Int) (wn : Th → Bool) (hn : m.n ≤ 4096) : (m.tll wn s lim).length ≤ 4097 := by
  by_cases he : m.tle s lim = 0
  · rw [tll_is _ he]
    obtain ⟨hv, _⟩ := tle_vld he
    have h1 := seqn_len m s lim (lim.toNat + 1) 0
    have h2 := hv.2.2
    unfold pick
    rw [List.length_map]
    refine Nat.le_trans (List.length_filter_le _ _) ?_
    unfold Me.sq
    omega
  · rw [tll_no _ he]
    exact Nat.zero_le _
theorem obj_real {m : Me} {s lim a : Int} (h : a ∈ m.tll wObj s lim) : m.real a = true := by
  obtain ⟨he, x, hx, hw, rfl⟩ := tll_mem h
  obtain ⟨_, q, _, _, _, ha, ht⟩ := sq_facts he x hx
  unfold wObj at hw
  refine decide_eq_true (kne_0.2 ⟨ate_0.1 ha, fun q => ?_⟩)
  rw [ht, q] at hw
  cases hw
/-- Objects are all but fillers. -/
theorem obj_flt {m : Me} {s lim : Int} : m.tll wObj s lim = (m.tll wAll s lim).filter fun a => m.att a != 255 := by
  by_cases he : m.tle s lim = 0
  · rw [tll_is _ he, tll_is _ he]
    have hf := sq_facts he
    generalize m.sq s lim = l at hf
    unfold pick
    induction l with
    | nil => rfl
    | cons x r ih =>
      have hx := (hf x (by simp)).2
      obtain ⟨_, _, _, _, _, ht⟩ := hx
      have ih := ih (fun y hy => hf y (by simp [hy]))
      simp only [List.filter_cons, wAll, if_true, List.map_cons]
      cases hb : (m.att x.a != 255)
      · have : wObj x = false := by unfold wObj; rw [ht]; simpa using hb
        rw [this]
        simpa [wAll] using ih
      · have : wObj x = true := by unfold wObj; rw [ht]; simpa using hb
        rw [this]
        simp only [if_true, List.map_cons]
        rw [ih]
  · rw [tll_no _ he, tll_no _ he]
    rfl
/-- How many words all have. -/
def Me.wsum (m : Me) : List Int → Int
  | [] => 0
  | a :: r => m.wsz a + m.wsum r
theorem wsum_snoc (m : Me) (l : List Int) (a : Int) : m.wsum (l ++ [a]) = m.wsum l + m.wsz a := by
  induction l with
  | nil => simp [Me.wsum]
  | cons b r ih => simp only [List.cons_append, Me.wsum, ih]; omega
theorem ow_fw {m : Me} {a : Int} (h : m.ate a = 0) : m.ow a + m.fw a = m.wsz a := by
  unfold Me.ow Me.fw
  by_cases k : m.att a = 255
  · simp [h, k]
  · simp [h, k]
theorem chn_facts {m : Me} {s : Int} : ∀ (l : List Int) (p q : Int), m.chn s l p q → m.wsum l = q - p ∧ m.ows l + m.fws l = q - p ∧ p ≤ q ∧ (0 ≤ p → ∀ x, x < l.length → l.getD x 0 = adr s (p + m.wsum (l.take x)) ∧ m.ate (l.getD x 0) = 0 ∧ 0 ≤ m.wsum (l.take x) ∧ p + m.wsum (l.take x) < q)
  | [], p, q, h => by
    obtain rfl : p = q := h
    exact ⟨by simp [Me.wsum], by simp [Me.ows, Me.fws], Int.le_refl _, fun _ x hx => by simp at hx⟩
  | a :: r, p, q, h => by
    obtain ⟨rfl, h1, h2, h3, h4⟩ := h
    obtain ⟨i1, i2, i3, i4⟩ := chn_facts r _ q h4
    have hs := wsz_small h1
    have hf := ow_fw h1
    refine ⟨by simp only [Me.wsum]; omega, by simp only [Me.ows, Me.fws]; omega, by omega, fun hp x hx => ?_⟩
    cases x with
    | zero => exact ⟨by simp [Me.wsum], by simpa using h1, by simp [Me.wsum], by simp [Me.wsum]; omega⟩
    | succ x =>
      obtain ⟨j1, j2, j3, j4⟩ := i4 (by omega) x (by simpa using hx)
      refine ⟨?_, ?_, ?_, ?_⟩
      · simp only [List.getD_cons_succ, List.take_succ_cons, Me.wsum]
        rw [j1]
        congr 1
        omega
      · simpa using j2
      · simp only [List.take_succ_cons, Me.wsum]; omega
      · simp only [List.take_succ_cons, Me.wsum]; omega
/-- Up to a place that is an end: the beginning of what is told up to a later one. -/
theorem chn_pre {m : Me} {s : Int} : ∀ (l l' : List Int) (p a b : Int), a ≤ b → m.chn s l p a → m.chn s l' p b → l <+: l'
  | [], l', _, _, _, _, _, _ => List.nil_prefix
  | x :: r, [], p, a, b, hab, ⟨_, _, _, h3, _⟩, h' => by
    have : p = b := h'
    omega
  | x :: r, y :: r', p, a, b, hab, ⟨e, _, _, _, h4⟩, ⟨e', _, _, _, h4'⟩ => by
    subst e
    subst e'
    rw [List.prefix_cons_inj]
    exact chn_pre r r' _ a b hab h4 h4'
theorem ows_flt (m : Me) (l : List Int) : m.ows (l.filter fun a => m.att a != 255) = m.ows l := by
  induction l with
  | nil => rfl
  | cons a r ih =>
    simp only [List.filter_cons]
    by_cases h : m.att a = 255
    · have e : (m.att a != 255) = false := by simp [h]
      rw [e]
      have : m.ow a = 0 := if_neg (fun q => q.2 h)
      simp only [Bool.false_eq_true, if_false, Me.ows, this, ih]
      omega
    · have e : (m.att a != 255) = true := by simp [h]
      rw [e]
      simp only [if_true, Me.ows, ih]

/-! ### What is reached -/
theorem fold_all {g : List Int → Int → List Int} {R : List Int → Prop} {T : Int → Prop} (h : ∀ o p, R o → T p → R (g o p)) : ∀ (ps : List Int) (o : List Int), R o → (∀ p ∈ ps, T p) → R (ps.foldl g o)
  | [], o, ho, _ => ho
  | p :: r, o, ho, hp => fold_all h r (g o p) (h o p ho (hp p (by simp))) (fun q hq => hp q (by simp [hq]))
/-- What is reached stays among what is closed. -/
theorem vis_in {m : Me} {S : Int → Prop} (hS : ∀ a, S a → ∀ b ∈ m.ptv a, m.real b = true → S b) : ∀ (f : Nat) (a : Int) (out : List Int), (∀ x ∈ out, S x) → (m.real a = true → S a) → ∀ x ∈ m.vis f a out, S x
  | 0, _, _, ho, _ => ho
  | f + 1, a, out, ho, ha => by
    unfold Me.vis
    split
    · rename_i h
      refine fold_all (R := fun o => ∀ x ∈ o, S x) (T := fun b => m.real b = true → S b) (fun o p ho hp => vis_in hS f p o ho hp) _ _ ?_ (fun p hp => hS a (ha h.1) p hp)
      intro x hx
      rcases List.mem_append.1 hx with q | q
      · exact ho x q
      · rw [List.mem_singleton.1 q]; exact ha h.1
    · exact ho
theorem vis_nodup (m : Me) : ∀ (f : Nat) (a : Int) (out : List Int), out.Nodup → (m.vis f a out).Nodup
  | 0, _, _, h => h
  | f + 1, a, out, h => by
    unfold Me.vis
    split
    · rename_i k
      exact fold_all (R := fun o => o.Nodup) (T := fun _ => True) (fun o p ho _ => vis_nodup m f p o ho) _ _ (nodup_snoc h k.2) (fun _ _ => trivial)
    · exact h
theorem vis_real (m : Me) (f : Nat) (a : Int) (out : List Int) (h : ∀ x ∈ out, m.real x = true) : ∀ x ∈ m.vis f a out, m.real x = true :=
  vis_in (S := fun x => m.real x = true) (fun _ _ _ _ h => h) f a out h id
/-- Whence each comes. -/
theorem vis_from {m : Me} {F : Int → Prop} : ∀ (f : Nat) (a : Int) (out : List Int), F a → (∀ x ∈ out, F x ∨ ∃ y ∈ out, x ∈ m.ptv y) → ∀ x ∈ m.vis f a out, F x ∨ ∃ y ∈ m.vis f a out, x ∈ m.ptv y
  | 0, _, _, _, ho => ho
  | f + 1, a, out, ha, ho => by
    unfold Me.vis
    split
    · rename_i h
      -- what has been told stays; each pointer is one of a's
      have key : ∀ (ps : List Int) (o : List Int), a ∈ o → (∀ p ∈ ps, p ∈ m.ptv a) → (∀ x ∈ o, F x ∨ ∃ y ∈ o, x ∈ m.ptv y) → ∀ x ∈ ps.foldl (fun o p => m.vis f p o) o, F x ∨ ∃ y ∈ ps.foldl (fun o p => m.vis f p o) o, x ∈ m.ptv y := by
        intro ps
        induction ps with
        | nil => exact fun o _ _ ho => ho
        | cons p r ih =>
          intro o hao hps ho
          have hpre := vis_pre m f p o
          refine ih (m.vis f p o) (hpre.subset hao) (fun q hq => hps q (by simp [hq])) ?_
          -- p itself is a pointer of a
          have h2 := vis_from (F := fun x => F x ∨ x = p) f p o (.inr rfl) (fun x hx => by
            rcases ho x hx with q | q
            · exact .inl (.inl q)
            · exact .inr q)
          intro x hx
          rcases h2 x hx with (q | q) | q
          · exact .inl q
          · exact .inr ⟨a, hpre.subset hao, by rw [q]; exact hps p (by simp)⟩
          · exact .inr q
      refine key _ _ (by simp) (fun p hp => hp) ?_
      intro x hx
      rcases List.mem_append.1 hx with q | q
      · rcases ho x q with r | ⟨y, hy, r⟩
        · exact .inl r
        · exact .inr ⟨y, by simp [hy], r⟩
      · rw [List.mem_singleton.1 q]; exact .inl ha
    · exact ho
/-- With enough steps what is reached is closed. -/
theorem vis_done {m : Me} : ∀ (f : Nat) (a : Int) (out : List Int), m.lft out < f → (m.real a = true → a ∈ m.vis f a out) ∧ ∀ x ∈ m.vis f a out, x ∉ out → ∀ b ∈ m.ptv x, m.real b = true → b ∈ m.vis f a out
  | 0, _, _, h => by omega
  | f + 1, a, out, h => by
    by_cases hr : m.real a = true
    · by_cases hin : a ∈ out
      · rw [vis_no (.inr hin)]
        exact ⟨fun _ => hin, fun x hx hn => absurd hx hn⟩
      · rw [vis_yes hr hin]
        have hl := lft_snoc hr hin
        have key : ∀ (ps : List Int) (o : List Int), m.lft o < f →
            (∀ p ∈ ps, m.real p = true → p ∈ ps.foldl (fun o p => m.vis f p o) o) ∧ ∀ x ∈ ps.foldl (fun o p => m.vis f p o) o, x ∉ o → ∀ b ∈ m.ptv x, m.real b = true → b ∈ ps.foldl (fun o p => m.vis f p o) o := by
          intro ps
          induction ps with
          | nil => exact fun o _ => ⟨fun _ h => (by cases h), fun x hx hn => absurd hx hn⟩
          | cons p r ih =>
            intro o ho
            obtain ⟨d1, d2⟩ := vis_done f p o ho
            have hpre := vis_pre m f p o
            have hlo : m.lft (m.vis f p o) < f := Nat.lt_of_le_of_lt (lft_mono (fun y hy => hpre.subset hy)) ho
            obtain ⟨e1, e2⟩ := ih (m.vis f p o) hlo
            have hp2 := fold_pre (fun o p => vis_pre m f p o) r (m.vis f p o)
            refine ⟨fun q hq hrq => ?_, fun x hx hn b hb hrb => ?_⟩
            · rcases List.mem_cons.1 hq with rfl | hq
              · exact hp2.subset (d1 hrq)
              · exact e1 q hq hrq
            · by_cases hx2 : x ∈ m.vis f p o
              · exact hp2.subset (d2 x hx2 hn b hb hrb)
              · exact e2 x hx hx2 b hb hrb
        obtain ⟨k1, k2⟩ := key (m.ptv a) (out ++ [a]) (by omega)
        have hpre := fold_pre (fun o p => vis_pre m f p o) (m.ptv a) (out ++ [a])
        refine ⟨fun _ => hpre.subset (by simp), fun x hx hn b hb hrb => ?_⟩
        by_cases hxa : x = a
        · subst hxa
          exact k1 b hb hrb
        · exact k2 x hx (by simp [hn, hxa]) b hb hrb
    · rw [vis_no (.inl (by simpa using hr))]
      exact ⟨fun q => absurd q hr, fun x hx hn => absurd hx hn⟩
theorem rch_facts (m : Me) (roots : List Int) : (m.rch roots).Nodup ∧ (∀ x ∈ m.rch roots, m.real x = true) ∧ (∀ x ∈ m.rch roots, x ∈ roots ∨ ∃ y ∈ m.rch roots, x ∈ m.ptv y) ∧ (∀ a ∈ roots, m.real a = true → a ∈ m.rch roots) ∧ ∀ x ∈ m.rch roots, ∀ b ∈ m.ptv x, m.real b = true → b ∈ m.rch roots := by
  have key : ∀ (ps o : List Int), o.Nodup → (∀ x ∈ o, m.real x = true) → (∀ x ∈ o, x ∈ roots ∨ ∃ y ∈ o, x ∈ m.ptv y) → (∀ p ∈ ps, p ∈ roots) → (∀ x ∈ o, ∀ b ∈ m.ptv x, m.real b = true → b ∈ o) →
      (ps.foldl (fun o a => m.vis (2 * m.n + 1) a o) o).Nodup ∧ (∀ x ∈ ps.foldl (fun o a => m.vis (2 * m.n + 1) a o) o, m.real x = true) ∧ (∀ x ∈ ps.foldl (fun o a => m.vis (2 * m.n + 1) a o) o, x ∈ roots ∨ ∃ y ∈ ps.foldl (fun o a => m.vis (2 * m.n + 1) a o) o, x ∈ m.ptv y)
        ∧ (∀ p ∈ ps, m.real p = true → p ∈ ps.foldl (fun o a => m.vis (2 * m.n + 1) a o) o) ∧ ∀ x ∈ ps.foldl (fun o a => m.vis (2 * m.n + 1) a o) o, ∀ b ∈ m.ptv x, m.real b = true → b ∈ ps.foldl (fun o a => m.vis (2 * m.n + 1) a o) o := by
    intro ps
    induction ps with
    | nil => exact fun o h1 h2 h3 _ h5 => ⟨h1, h2, h3, fun _ h => (by cases h), h5⟩
    | cons p r ih =>
      intro o h1 h2 h3 h4 h5
      obtain ⟨d1, d2⟩ := vis_done (m := m) (2 * m.n + 1) p o (by have := lft_le m o; omega)
      have hpre := vis_pre m (2 * m.n + 1) p o
      obtain ⟨e1, e2, e3, e4, e5⟩ := ih (m.vis (2 * m.n + 1) p o) (vis_nodup m _ p o h1) (vis_real m _ p o h2) (vis_from (F := fun x => x ∈ roots) _ p o (h4 p (by simp)) h3) (fun q hq => h4 q (by simp [hq])) (fun x hx b hb hrb => by
        by_cases hxo : x ∈ o
        · exact hpre.subset (h5 x hxo b hb hrb)
        · exact d2 x hx hxo b hb hrb)
      refine ⟨e1, e2, e3, fun q hq hrq => ?_, e5⟩
      rcases List.mem_cons.1 hq with rfl | hq
      · exact (fold_pre (fun o p => vis_pre m _ p o) r _).subset (d1 hrq)
      · exact e4 q hq hrq
  exact key roots [] List.nodup_nil (fun _ h => (by cases h)) (fun _ h => (by cases h)) (fun _ h => h) (fun _ h => (by cases h))
theorem rch_in {m : Me} {S : Int → Prop} (hS : ∀ a, S a → ∀ b ∈ m.ptv a, m.real b = true → S b) (roots : List Int) (h : ∀ a ∈ roots, S a) : ∀ x ∈ m.rch roots, S x :=
  fold_all (R := fun o => ∀ x ∈ o, S x) (T := S) (fun o p ho hp => vis_in hS _ p o ho (fun _ => hp)) roots [] (fun _ h => by cases h) h
theorem real_0 (m : Me) : m.real 0 = false := decide_eq_false (fun q => by
  have h := (kne_0.1 q).1.1.1
  revert h
  decide)
theorem rch_len (m : Me) (hn : m.n ≤ 4096) (roots : List Int) : (m.rch roots).length ≤ 8192 := by
  have key : ∀ (f : Nat) (a : Int) (out : List Int), out.length + m.lft out ≤ 8192 → (m.vis f a out).length + m.lft (m.vis f a out) ≤ 8192 := by
    intro f
    induction f with
    | zero => exact fun _ _ h => h
    | succ f ih =>
      intro a out h
      unfold Me.vis
      split
      · rename_i k
        have hl := lft_snoc k.1 k.2
        exact fold_all (R := fun o => o.length + m.lft o ≤ 8192) (T := fun _ => True) (fun o p ho _ => ih p o ho) _ _ (by simp; omega) (fun _ _ => trivial)
      · exact h
  have h := fold_all (R := fun o : List Int => o.length + m.lft o ≤ 8192) (T := fun _ => True) (fun o p ho _ => key (2 * m.n + 1) p o ho) roots [] (by have := lft_le m []; simp; omega) (fun _ _ => trivial)
  have e : roots.foldl (fun o a => m.vis (2 * m.n + 1) a o) [] = m.rch roots := rfl
  rw [e] at h
  omega
theorem rch_u64 (m : Me) (roots : List Int) : ∀ x ∈ m.rch roots, U64 x := fun x hx => real_u64 ((rch_facts m roots).2.1 x hx)
def Me.snd (m : Me) (s lim : Int) : Bool := decide (m.tle s lim = 0) && m.sndb (m.tll wObj s lim)
theorem sound_any (m : Me) (P Q : Addr) (c d : Nat) (s lim : Int) (w : World) (hm : Sits w m P Q c d) (hwf : m.wf) :
    Calls Try.prog 21 #[.agg (mcs m.n P Q c d), .int .i64 s, .int .i64 lim] w (Bool1 w (m.snd s lim)) := by
  unfold Me.snd
  by_cases he : m.tle s lim = 0
  · rw [decide_eq_true he, Bool.true_and]
    exact sound_is m P Q c d s lim _ w hm hwf he rfl (tll_u64 hm.1.2.1) (by have := tll_len m s lim wObj hm.1.2.1; omega)
  · rw [decide_eq_false he, Bool.false_and]
    exact sound_no m P Q c d s lim _ w hm hwf rfl he
theorem Rd.take {w : World} {A : Option Addr} {n k : Nat} {xs : List Int} (h : Rd w A n xs) (hk : k ≤ n) : Rd w A k (xs.take k) := by
  have hl := h.1
  refine ⟨by rw [List.length_take]; omega, fun hk0 => ?_⟩
  obtain ⟨p, e, hr⟩ := h.2 (by omega)
  exact ⟨p, e, hr.1, fun j x hx => by
    rw [List.getElem?_take] at hx
    split at hx
    · exact hr.2 j x hx
    · cases hx⟩
set_option maxRecDepth 100000 in
theorem words_in {H : Type} {enc : TypeId × Value → H} {w : World} {r : Reach} {b0 : Nat} {v : Value} {d : DataW H} {p : List MemPlace} (hv : Value.okWide Try.prog w r b0 22 v) (h : DataW.Trod enc Try.prog w 0 (fun _ => true) true 22 v d p) :
    ∃ A n c xs, v = .slice A n c ∧ SlOk w A n c xs := by
  obtain ⟨a, len, cap, rfl⟩ := okWide_slice Try.underlying22 hv
  obtain ⟨fuel, hf⟩ := h
  exact words_open hf
end Go.Proofs.Ytmjadmoadedghaa
