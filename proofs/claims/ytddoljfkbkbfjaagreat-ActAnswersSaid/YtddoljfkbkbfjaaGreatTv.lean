/- A step that has done nothing yet stands in memory of its own: plain facts. -/
import Derived.Test.YtddoljfkbkbfjaaGreatTu
import Derived.Test.YtddoljfkbkbfjaaGreatTk
namespace Go.Proofs.YtddoljfkbkbfjaaGreat.T
open G
open Go.Joins Go.ChangeShapes Go.WideShapes Go.ChangeAt Go.RowKit Go.Deep Go.Shelf Go.Maps
set_option linter.unusedVariables false
set_option linter.unusedSimpArgs false
section
variable {α : Type} {base lo hi : Nat} {S S' X : List Nat} {e : TypeId} {cv : α → List Value} {z : α} {w w' : World} {v : Value} {xs : List α}
theorem Cl.cs (h : Cl lo hi e cv z w v xs) (hb : base ≤ lo) (ho : ∀ ys : List α, Odd (ys.flatMap cv).toArray) : ∃ S, Cs base S e cv z w v xs ∧ ∀ g ∈ S, lo ≤ g ∧ g < hi ∧ ∃ cs, Blk w g e cs ∧ Odd cs := by
  rcases h with ⟨h0, hA⟩ | ⟨h0, g, cap, e1, h1, h2, h3, h4, h5⟩
  · exact ⟨[], .inl ⟨h0, hA⟩, fun g q => by cases q⟩
  · exact ⟨[g], .inr ⟨h0, g, cap, e1, by omega, by simp, h3, h4, h5⟩, fun g' q => by
      simp at q
      subst q
      exact ⟨h1, h2, _, h5, ho _⟩⟩
theorem Cs.mono (h : Cs base S e cv z w v xs) (k : ∀ g ∈ S, g ∈ S') : Cs base S' e cv z w v xs := h.imp id fun ⟨h0, g, cap, e1, h1, h2, h3⟩ => ⟨h0, g, cap, e1, h1, k g h2, h3⟩
theorem Cl.ap2 (h : Cl lo hi e cv z w v xs) (k : ∀ g cs, lo ≤ g → g < hi → Blk w g e cs → g ∉ X) : Ap X v := fun p n c e1 hn q => by
  rcases h with ⟨h0, A, hA⟩ | ⟨h0, g, cap, e2, h1, h2, h3, h4, h5⟩
  · rw [e1] at hA
    injection hA with _ a2 _
    exact hn a2
  · rw [e1] at e2
    injection e2 with a1 a2 a3
    injection a1 with a1
    rw [a1] at q
    exact k g _ h1 h2 h5 q
end
theorem odd_n (ys : List Int) : Odd (ys.flatMap inc).toArray := odd_fm (k := 1) (j0 := 0) (fun _ => rfl) (by decide) (by decide) (fun x y => by simp [inc]) ys
theorem odd_a (ys : List An) : Odd (ys.flatMap anc).toArray := odd_fm (k := 3) (j0 := 0) (fun _ => rfl) (by decide) (by decide) (fun x y => by simp [anc]) ys
theorem odd_e (ys : List Ent) : Odd (ys.flatMap enc).toArray := odd_fm (k := 2) (j0 := 1) (fun _ => rfl) (by decide) (by decide) (fun x y => by simp [enc]) ys
theorem bs_le {bs : Nat → Nat} {n : Nat} (h : ∀ j, j < n → bs j ≤ bs (j + 1)) : ∀ {i j : Nat}, i ≤ j → j ≤ n → bs i ≤ bs j := by
  intro i j hij hj
  induction j with
  | zero => obtain rfl : i = 0 := by omega
            exact Nat.le_refl _
  | succ j ih =>
    rcases Nat.lt_or_ge i (j + 1) with q | q
    · exact Nat.le_trans (ih (by omega) (by omega)) (h j (by omega))
    · obtain rfl : i = j + 1 := by omega
      exact Nat.le_refl _
/-- What copied leaves is where a step may work. -/
theorem st_of_cp {h : Hp} {W w1 w3 : World} {P Q : Addr} {c d T cT : Nat} {A : Option Addr} {co : Nat} {us : List Tv} {bs : Nat → Nat} {D j : Nat} {o : Op} {s : Ks} {t : Th} (hs : Sits w1 h.m P Q c d)
    (hT : Blk w1 T 44 ((us ++ List.replicate (cT - h.th.length) tz).flatMap tvc).toArray) (hul : us.length = h.th.length) (hc1 : h.th.length ≤ cT) (hc2 : cT ≤ maxLen) (hWT : W.heap.size ≤ T) (hTb : T < bs 0) (hor : Cl W.heap.size (bs 0) 3 inc 0 w1 (.slice A h.od.length co) h.od)
    (hcp : ∀ (j : Nat) u t, us[j]? = some u → h.th[j]? = some t → CpT (bs j) (bs (j + 1)) w1 u t) (hbs : ∀ j, j < h.th.length → bs j ≤ bs (j + 1)) (hbn : bs h.th.length ≤ w1.heap.size) (hPT : P.block ≠ T ∧ Q.block ≠ T) (hU : Up w1 w3) (hD : Blk w3 D 78 (stc h P Q c d (.slice (some ⟨T, 0, none⟩) us.length cT) (.slice A h.od.length co) j ⟨T, j * 8, none⟩ o s)) (hDb : w1.heap.size ≤ D) (ht : h.th[j]? = some t) :
    ∃ S3, St W.heap.size D T S3 h j o s w3 := by
  have hj : j < h.th.length := by
    rcases Nat.lt_or_ge j h.th.length with q | q
    · exact q
    · rw [List.getElem?_eq_none q] at ht; cases ht
  have hju : j < us.length := by omega
  have hu : us[j]? = some us[j] := List.getElem?_eq_getElem hju
  obtain ⟨h1, h2, h3, mid, m1, m2, k1, k2, k3, k4, k5⟩ := hcp j _ t hu ht
  have hW0 : W.heap.size ≤ bs 0 := by omega
  have hbj : ∀ i, i ≤ h.th.length → bs 0 ≤ bs i := fun i hi => bs_le hbs (Nat.zero_le i) hi
  have hbj0 := hbj j (by omega)
  have hbj1 := bs_le hbs (Nat.le_succ j) (show j + 1 ≤ h.th.length by omega)
  have hbjn := bs_le hbs (show j + 1 ≤ h.th.length by omega) (Nat.le_refl _)
  obtain ⟨So, o1, o2⟩ := hor.cs (Nat.le_refl _) odd_n
  obtain ⟨Sd, d1, d2⟩ := k3.cs (base := W.heap.size) (by omega) odd_a
  obtain ⟨Sl, l1, l2⟩ := k4.cs (base := W.heap.size) (by omega) odd_e
  have hDT : D ≠ T := hD.ne_type (hT.up hU) (by decide)
  have hTn : ∀ g ∈ So ++ Sd ++ Sl, g ≠ T := fun g hg e => by
    simp only [List.mem_append] at hg
    rcases hg with (hg | hg) | hg
    · obtain ⟨-, -, cs, b, -⟩ := o2 g hg
      exact b.ne_type hT (by decide) e
    · have := d2 g hg; omega
    · have := l2 g hg; omega
  have hlt : ∀ g ∈ So ++ Sd ++ Sl, W.heap.size ≤ g ∧ g < w1.heap.size ∧ ∃ t cs, Blk w1 g t cs ∧ Odd cs := fun g hg => by
    simp only [List.mem_append] at hg
    rcases hg with (hg | hg) | hg
    · obtain ⟨a1, a2, cs, b, b2⟩ := o2 g hg
      exact ⟨a1, b.lt, _, cs, b, b2⟩
    · obtain ⟨a1, a2, cs, b, b2⟩ := d2 g hg
      exact ⟨by omega, b.lt, _, cs, b, b2⟩
    · obtain ⟨a1, a2, cs, b, b2⟩ := l2 g hg
      exact ⟨by omega, b.lt, _, cs, b, b2⟩
  have hin : ∀ g, g ∈ So ++ Sd ++ Sl → g < bs 0 ∨ (bs j ≤ g ∧ g < bs (j + 1)) := fun g hg => by
    simp only [List.mem_append] at hg
    rcases hg with (hg | hg) | hg
    · exact .inl (o2 g hg).2.1
    · have := d2 g hg; exact .inr (by omega)
    · have := l2 g hg; exact .inr (by omega)
  have hXD : ∀ g, g < w1.heap.size → g ≠ T → g ∉ So ++ Sd ++ Sl → g ∉ D :: T :: (So ++ Sd ++ Sl) := fun g q1 q2 q3 q => by
    simp only [List.mem_cons] at q
    rcases q with q | q | q
    · omega
    · exact q2 q
    · exact q3 q
  have hxl : ∀ {α : Type} {lo hi : Nat} {e : TypeId} {cv : α → List Value} {z : α} {v : Value} {xs : List α}, Cl lo hi e cv z w1 v xs → bs 0 ≤ lo → hi ≤ w1.heap.size → (∀ g cs, lo ≤ g → g < hi → Blk w1 g e cs → g ∉ So ++ Sd ++ Sl) → Ap (D :: T :: (So ++ Sd ++ Sl)) v := fun hc q1 q2 q3 =>
    hc.ap2 fun g cs a1 a2 b => hXD g (by omega) (by omega) (q3 g cs a1 a2 b)
  have hna : ∀ (g : Nat) (e : TypeId) (cs : Array Value), bs 0 ≤ g → Blk w1 g e cs → e ≠ 56 → (g ∉ Sl) → g ∉ So ++ Sd ++ Sl := fun g e cs q0 b qa ql q => by
    simp only [List.mem_append] at q
    rcases q with (q | q) | q
    · have := o2 g q; omega
    · obtain ⟨-, -, cs2, b2, -⟩ := d2 g q
      exact b.ne_type b2 qa rfl
    · exact ql q
  have hnl : ∀ (g : Nat) (e : TypeId) (cs : Array Value), Blk w1 g e cs → e ≠ 66 → g ∉ Sl := fun g e cs b qe q => by
    obtain ⟨-, -, cs2, b2, -⟩ := l2 g q
    exact b.ne_type b2 qe rfl
  refine ⟨So ++ Sd ++ Sl, us, P, Q, c, d, A, co, cT, hD, by rw [hul]; exact hT.up hU, by omega, hc2, by omega, hWT, ⟨hs.up hU, ?_, ?_, hul, hju, ?_, ?_, ?_, ?_, ?_, ?_⟩⟩
  · have hr := hs.2.2.2.2.2.1
    refine hXD _ hr.1 hPT.1 fun q => ?_
    obtain ⟨-, -, t', cs, b, b2⟩ := hlt _ q
    exact row_odd hr (by have := hs.1; obtain ⟨a0, a1, a2, a3⟩ := this; omega) b b2 rfl
  · have hr := hs.2.2.2.2.2.2
    refine hXD _ hr.1 hPT.2 fun q => ?_
    obtain ⟨-, -, t', cs, b, b2⟩ := hlt _ q
    exact row_odd hr (by have := hs.1; obtain ⟨a0, a1, a2, a3⟩ := this; omega) b b2 rfl
  · intro i u t' hij hui hti
    have hi : i < h.th.length := by
      rcases Nat.lt_or_ge i h.th.length with q | q
      · exact q
      · rw [List.getElem?_eq_none q] at hti; cases hti
    obtain ⟨e1, e2, e3, mi, n1, n2, c1, c2, c3, c4, c5⟩ := hcp i u t' hui hti
    have hb0 := hbj i (by omega)
    have hb1 := bs_le hbs (show i + 1 ≤ h.th.length by omega) (Nat.le_refl _)
    have hsep : ∀ g, bs i ≤ g → g < bs (i + 1) → g ∉ So ++ Sd ++ Sl := fun g q1 q2 q => by
      rcases hin g q with a | ⟨a, b⟩
      · omega
      · rcases Nat.lt_or_ge i j with x | x
        · have := bs_le hbs (show i + 1 ≤ j by omega) (by omega); omega
        · have := bs_le hbs (show j + 1 ≤ i by omega) (by omega); omega
    exact ⟨⟨(c1.up hU).rc, e1, e2, (c4.up hU).rc, (c2.up hU).rc, (c5.up hU).rc, e3, (c3.up hU).rc⟩, hxl c1 hb0 (by omega) (fun g cs a b _ => hsep g a (by omega)), hxl c4 hb0 (by omega) (fun g cs a b _ => hsep g a (by omega)), hxl c2 hb0 (by omega) (fun g cs a b _ => hsep g a (by omega)), hxl c5 (by omega) (by omega) (fun g cs a b _ => hsep g (by omega) (by omega)), hxl c3 hb0 (by omega) (fun g cs a b _ => hsep g a (by omega))⟩
  · intro u t' hu' ht'
    rw [hu] at hu'
    rw [ht] at ht'
    cases hu'
    cases ht'
    refine ⟨(k1.up hU).rc, hxl k1 hbj0 (by omega) (fun g cs a b q => hna g _ cs (by omega) q (by decide) (hnl g _ cs q (by decide))), h1, h2, ((l1.mono fun g q => by simp [q]).keep fun g cs b _ => b.up hU), (k2.up hU).rc, hxl k2 hbj0 (by omega) (fun g cs a b q => hna g _ cs (by omega) q (by decide) (hnl g _ cs q (by decide))), (k5.up hU).rc, hxl k5 (by omega) (by omega) (fun g cs a b q => hna g _ cs (by omega) q (by decide) fun x => by have := l2 g x; omega), h3, ((d1.mono fun g q => by simp [q]).keep fun g cs b _ => b.up hU)⟩
  · exact (o1.mono fun g q => by simp [q]).keep fun g cs b _ => b.up hU
  · intro g hg
    obtain ⟨a, -, t', cs, b, b2⟩ := hlt g hg
    exact ⟨a, t', cs, b.up hU, b2⟩
  · intro q
    have := (hlt D q).2.1
    omega
  · exact fun q => hTn T q rfl
end Go.Proofs.YtddoljfkbkbfjaaGreat.T
