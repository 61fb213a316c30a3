/- Rows of words, and rows of such rows; handles (package stack: Get, Real), and the document's Get and Real: contracts. -/
import Derived.Test.YtpbbbgcafphplaaBs2
import Derived.ArgAppend
namespace Go.Proofs.Ytpbbbgcafphplaa
open Go.Joins Go.ChangeShapes Go.WideShapes Go.ChangeAt Go.RowKit Go.Deep Go.Shelf Go.Maps
set_option linter.unusedVariables false
set_option linter.unusedSimpArgs false

/-- A slice of words. -/
def Sl (w : World) (v : Value) (xs : List Int) : Prop := ∃ A c, v = .slice A xs.length c ∧ xs.length ≤ c ∧ c ≤ maxLen ∧ (A = none → c = 0) ∧ Rd w A xs.length xs
theorem Sl.up {w w' : World} {v : Value} {xs : List Int} (h : Sl w v xs) (k : Up w w') : Sl w' v xs := by
  obtain ⟨A, c, e, h1, h2, h3, h4⟩ := h
  exact ⟨A, c, e, h1, h2, h3, h4.up k⟩
theorem Sl.of_lo {w : World} {n₀ : Nat} {v : Value} {xs : List Int} (h : Lo w n₀ v xs) : Sl w v xs := by
  obtain ⟨A, c, e, h1, h2, h3⟩ := h.sl
  refine ⟨A, c, e, h1, h2, fun q => ?_, h3⟩
  subst q
  obtain ⟨-, hc⟩ := h
  rcases hc with ⟨rfl, h0⟩ | ⟨g, cap, cur, rfl, _⟩
  · rw [h0] at e; cases e; rfl
  · cases e
theorem Sl.nil (w : World) : Sl w (.slice none 0 0) [] := ⟨none, 0, rfl, Nat.le_refl _, Nat.zero_le _, fun _ => rfl, rfl, fun q => absurd q (by simp)⟩
theorem Sl.rd {w : World} {A : Option Addr} {n c : Nat} {xs : List Int} (h : Sl w (.slice A n c) xs) : Rd w A n xs := by
  obtain ⟨A', c', e, _, _, _, h4⟩ := h
  cases e
  exact h4
theorem Sl.len {w : World} {A : Option Addr} {n c : Nat} {xs : List Int} (h : Sl w (.slice A n c) xs) : xs.length = n := h.rd.1
theorem Sl.max {w : World} {v : Value} {xs : List Int} (h : Sl w v xs) : xs.length ≤ maxLen := by
  obtain ⟨A, c, e, h1, h2, _⟩ := h
  omega

/-- Which one, and why none. -/
def gte (xs : List Int) (h : Int) : Int := if 0 ≤ h ∧ h < xs.length then 0 else 5
def gtv (xs : List Int) (h : Int) : Int := if 0 ≤ h ∧ h < xs.length then xs.getD h.toNat 0 else 0
def rle (xs : List Int) (h : Int) : Int := if gte xs h = 0 then (if gtv xs h = 0 then 6 else 0) else 5
abbrev GetPost (x e : Int) (w : World) (en : Ending) (w' : World) : Prop := en = .returned (.tuple #[.int .u64 x, .int .i64 e]) ∧ Up w w'

theorem get_lt (A : Option Addr) (k c : Nat) (h : Int) (w : World) (h0 : h < 0) : Calls Try.prog 16 #[.slice A k c, .int .i64 h] w (GetPost 0 5 w) := by
  have d0 : decide (h < 0) = true := decide_eq_true h0
  go_enter Try.func16, Try.ntmps16
  go_wp2
  go_ret2
  exact ⟨rfl, Up.refl _⟩
theorem get_ge (A : Option Addr) (k c : Nat) (h : Int) (w : World) (h0 : 0 ≤ h) (h1 : (k : Int) ≤ h) : Calls Try.prog 16 #[.slice A k c, .int .i64 h] w (GetPost 0 5 w) := by
  have d0 : decide (h < 0) = false := decide_eq_false (by omega)
  have d1 : decide ((k : Int) ≤ h) = true := decide_eq_true h1
  go_enter Try.func16, Try.ntmps16
  go_wp2
  go_ret2
  exact ⟨rfl, Up.refl _⟩
theorem get_in (A : Option Addr) (k c : Nat) (xs : List Int) (x : Nat) (w : World) (hx : Rd w A k xs) (h1 : x < k) (hk : k ≤ maxLen) : Calls Try.prog 16 #[.slice A k c, .int .i64 x] w (GetPost (xs.getD x 0) 0 w) := by
  obtain ⟨p, rfl, hc⟩ := hx.at_ h1
  have d0 : decide ((x : Int) < 0) = false := decide_eq_false (by omega)
  have d1 : decide ((k : Int) ≤ x) = false := decide_eq_false (by omega)
  unfold maxLen at hk
  clear hx
  generalize xs.getD x 0 = u at hc
  go_enter Try.func16, Try.ntmps16
  go_wp2
  go_ret2
  exact ⟨rfl, Up.refl _⟩
theorem get_any (v : Value) (xs : List Int) (h : Int) (w : World) (hx : Sl w v xs) : Calls Try.prog 16 #[v, .int .i64 h] w (GetPost (gtv xs h) (gte xs h) w) := by
  have hm := hx.max
  obtain ⟨A, c, rfl, -, -, -, hr⟩ := hx
  unfold gtv gte
  by_cases h0 : h < 0
  · rw [if_neg (by omega), if_neg (by omega)]
    exact get_lt A _ c h w h0
  by_cases h1 : h < xs.length
  · rw [if_pos (by omega), if_pos (by omega)]
    obtain ⟨x, rfl⟩ : ∃ x : Nat, h = x := ⟨h.toNat, by omega⟩
    exact get_in A _ c xs x w hr (by omega) hm
  · rw [if_neg (by omega), if_neg (by omega)]
    exact get_ge A _ c h w (by omega) (by omega)

theorem rget_lt (A : Option Addr) (k c : Nat) (h : Int) (w : World) (h0 : h < 0) : Calls Try.prog 17 #[.slice A k c, .int .i64 h] w (GetPost 0 5 w) := by
  have d0 : decide (h < 0) = true := decide_eq_true h0
  go_enter Try.func17, Try.ntmps17
  go_wp2
  go_ret2
  exact ⟨rfl, Up.refl _⟩
theorem rget_ge (A : Option Addr) (k c : Nat) (h : Int) (w : World) (h0 : 0 ≤ h) (h1 : (k : Int) ≤ h) : Calls Try.prog 17 #[.slice A k c, .int .i64 h] w (GetPost 0 5 w) := by
  have d0 : decide (h < 0) = false := decide_eq_false (by omega)
  have d1 : decide ((k : Int) ≤ h) = true := decide_eq_true h1
  go_enter Try.func17, Try.ntmps17
  go_wp2
  go_ret2
  exact ⟨rfl, Up.refl _⟩
theorem rget_in (A : Option Addr) (k c : Nat) (xs : List Int) (x : Nat) (w : World) (hx : Rd w A k xs) (h1 : x < k) (hk : k ≤ maxLen) : Calls Try.prog 17 #[.slice A k c, .int .i64 x] w (GetPost (xs.getD x 0) 0 w) := by
  obtain ⟨p, rfl, hc⟩ := hx.at_ h1
  have d0 : decide ((x : Int) < 0) = false := decide_eq_false (by omega)
  have d1 : decide ((k : Int) ≤ x) = false := decide_eq_false (by omega)
  unfold maxLen at hk
  clear hx
  generalize xs.getD x 0 = u at hc
  go_enter Try.func17, Try.ntmps17
  go_wp2
  go_ret2
  exact ⟨rfl, Up.refl _⟩
theorem rget_any (v : Value) (xs : List Int) (h : Int) (w : World) (hx : Sl w v xs) : Calls Try.prog 17 #[v, .int .i64 h] w (GetPost (gtv xs h) (gte xs h) w) := by
  have hm := hx.max
  obtain ⟨A, c, rfl, -, -, -, hr⟩ := hx
  unfold gtv gte
  by_cases h0 : h < 0
  · rw [if_neg (by omega), if_neg (by omega)]
    exact rget_lt A _ c h w h0
  by_cases h1 : h < xs.length
  · rw [if_pos (by omega), if_pos (by omega)]
    obtain ⟨x, rfl⟩ : ∃ x : Nat, h = x := ⟨h.toNat, by omega⟩
    exact rget_in A _ c xs x w hr (by omega) hm
  · rw [if_neg (by omega), if_neg (by omega)]
    exact rget_ge A _ c h w (by omega) (by omega)

set_option maxHeartbeats 1000000 in
theorem real_any (v : Value) (xs : List Int) (h : Int) (w : World) (hx : Sl w v xs) : Calls Try.prog 18 #[v, .int .i64 h] w (GetPost (gtv xs h) (rle xs h) w) := by
  have hg := Lib.hid (fun w' (k : Up w w') => get_any v xs h w' (hx.up k))
  have H0 : gte xs h ≠ 0 → gtv xs h = 0 := by
    unfold gte gtv
    intro q
    split at q
    · exact absurd rfl q
    · rename_i k; exact if_neg k
  have H5 : gte xs h ≠ 0 → gte xs h = 5 := by
    unfold gte
    intro q
    split at q
    · exact absurd rfl q
    · rename_i k; exact if_neg k
  obtain ⟨A, c, rfl, -⟩ := hx
  unfold rle
  generalize xs.length = n at hg ⊢
  by_cases he : gte xs h = 0
  · rw [if_pos he]
    clear H5 H0
    generalize gtv xs h = u at hg
    rw [he] at hg
    clear he
    by_cases hu : u = 0
    · subst hu
      rw [if_pos rfl]
      go_enter Try.func18, Try.ntmps18
      go_wp2_with (fail)
      refine (hg.out _ (Up.refl _)).mono ?_
      rintro e w1 ⟨rfl, k1⟩
      go_wp2
      go_ret2
      exact ⟨rfl, k1⟩
    · rw [if_neg hu]
      have hb : (u == 0) = false := beq_eq_false_iff_ne.2 hu
      clear hu
      go_enter Try.func18, Try.ntmps18
      go_wp2_with (fail)
      refine (hg.out _ (Up.refl _)).mono ?_
      rintro e w1 ⟨rfl, k1⟩
      go_wp2
      go_ret2
      exact ⟨rfl, k1⟩
  · rw [if_neg he, H0 he]
    rw [H0 he, H5 he] at hg
    clear he H0 H5
    go_enter Try.func18, Try.ntmps18
    go_wp2_with (fail)
    refine (hg.out _ (Up.refl _)).mono ?_
    rintro e w1 ⟨rfl, k1⟩
    go_wp2
    go_ret2
    exact ⟨rfl, k1⟩

set_option maxHeartbeats 1000000 in
theorem rreal_any (v : Value) (xs : List Int) (h : Int) (w : World) (hx : Sl w v xs) : Calls Try.prog 19 #[v, .int .i64 h] w (GetPost (gtv xs h) (rle xs h) w) := by
  have hg := Lib.hid (fun w' (k : Up w w') => rget_any v xs h w' (hx.up k))
  have H0 : gte xs h ≠ 0 → gtv xs h = 0 := by
    unfold gte gtv
    intro q
    split at q
    · exact absurd rfl q
    · rename_i k; exact if_neg k
  have H5 : gte xs h ≠ 0 → gte xs h = 5 := by
    unfold gte
    intro q
    split at q
    · exact absurd rfl q
    · rename_i k; exact if_neg k
  obtain ⟨A, c, rfl, -⟩ := hx
  unfold rle
  generalize xs.length = n at hg ⊢
  by_cases he : gte xs h = 0
  · rw [if_pos he]
    clear H5 H0
    generalize gtv xs h = u at hg
    rw [he] at hg
    clear he
    by_cases hu : u = 0
    · subst hu
      rw [if_pos rfl]
      go_enter Try.func19, Try.ntmps19
      go_wp2_with (fail)
      refine (hg.out _ (Up.refl _)).mono ?_
      rintro e w1 ⟨rfl, k1⟩
      go_wp2
      go_ret2
      exact ⟨rfl, k1⟩
    · rw [if_neg hu]
      have hb : (u == 0) = false := beq_eq_false_iff_ne.2 hu
      clear hu
      go_enter Try.func19, Try.ntmps19
      go_wp2_with (fail)
      refine (hg.out _ (Up.refl _)).mono ?_
      rintro e w1 ⟨rfl, k1⟩
      go_wp2
      go_ret2
      exact ⟨rfl, k1⟩
  · rw [if_neg he, H0 he]
    rw [H0 he, H5 he] at hg
    clear he H0 H5
    go_enter Try.func19, Try.ntmps19
    go_wp2_with (fail)
    refine (hg.out _ (Up.refl _)).mono ?_
    rintro e w1 ⟨rfl, k1⟩
    go_wp2
    go_ret2
    exact ⟨rfl, k1⟩

theorem words_any' (u v : Value) (xs ys : List Int) (w : World) (hx : Sl w u xs) (hy : Sl w v ys) :
    Calls Try.prog 20 #[u, v] w fun e w' => e = .returned (.bool (decide (xs = ys))) ∧ Up w w' := by
  have hm := hx.max
  obtain ⟨A, c, rfl, -, -, -, hr⟩ := hx
  obtain ⟨B, d, rfl, -, -, -, hs⟩ := hy
  exact rwords_any A B _ _ c d xs ys w hr hs hm
theorem has_any (v : Value) (xs : List Int) (a : Int) (w : World) (hx : Sl w v xs) :
    Calls Try.prog 26 #[v, .int .u64 a] w fun e w' => e = .returned (.bool (decide (a ∈ xs))) ∧ Up w w' := by
  have hm := hx.max
  obtain ⟨A, c, rfl, -, -, -, hr⟩ := hx
  exact (rhas_any A _ c xs a w hr hm).mono fun e w' h => ⟨h.1, by rw [← h.2]; exact Up.refl _⟩

end Go.Proofs.Ytpbbbgcafphplaa
