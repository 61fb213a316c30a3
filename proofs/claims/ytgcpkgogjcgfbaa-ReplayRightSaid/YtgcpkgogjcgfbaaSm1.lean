/- Rows of words are compared word by word: contracts of the document's Words and of slices.Equal. -/
import Derived.Test.YtgcpkgogjcgfbaaRf5
namespace Go.Proofs.Ytgcpkgogjcgfbaa
open Go.ChangeShapes Go.WideShapes Go.ChangeAt Go.RowKit
set_option linter.unusedVariables false
set_option linter.unusedSimpArgs false

/-- A slice reads as a list of words, nil let in. -/
def Rd (w : World) (A : Option Addr) (n : Nat) (xs : List Int) : Prop := xs.length = n ∧ (0 < n → ∃ p, A = some p ∧ Row w p xs)
theorem Rd.up {w w' : World} {A : Option Addr} {n : Nat} {xs : List Int} (h : Rd w A n xs) (k : Up w w') : Rd w' A n xs :=
  ⟨h.1, fun hn => by obtain ⟨p, e, hr⟩ := h.2 hn; exact ⟨p, e, hr.up k⟩⟩
theorem Rd.of_row {w : World} {p : Addr} {xs : List Int} {n : Nat} (h : Row w p xs) (hn : xs.length = n) : Rd w (some p) n xs := ⟨hn, fun _ => ⟨p, rfl, h⟩⟩
theorem Rd.at_ {w : World} {A : Option Addr} {n x : Nat} {xs : List Int} (h : Rd w A n xs) (hx : x < n) : ∃ p, A = some p ∧ w.cell? (p.add x) = some (.int .u64 (xs.getD x 0)) := by
  obtain ⟨p, e, hr⟩ := h.2 (by omega)
  exact ⟨p, e, hr.at_ x (by rw [h.1]; exact hx)⟩
theorem take_more {xs ys : List Int} {x : Nat} (h : xs.take x = ys.take x) (h1 : x < xs.length) (h2 : x < ys.length) (e : xs.getD x 0 = ys.getD x 0) : xs.take (x + 1) = ys.take (x + 1) := by
  rw [List.take_succ_eq_append_getElem h1, List.take_succ_eq_append_getElem h2, h]
  simp [List.getD, List.getElem?_eq_getElem h1, List.getElem?_eq_getElem h2] at e
  rw [e]
theorem ne_of_get {xs ys : List Int} {x : Nat} (e : xs.getD x 0 ≠ ys.getD x 0) : xs ≠ ys := fun h => e (by rw [h])

def EqRel (w : World) (xs ys : List Int) (n : Nat) (i : Value) (wr : World) : Prop := ∃ x : Nat, x ≤ n ∧ i = .int .i64 x ∧ xs.take x = ys.take x ∧ Up w wr

set_option maxHeartbeats 2000000 in
theorem rwords_len (A B : Option Addr) (n k c d : Nat) (w : World) (hnk : n ≠ k) :
    Calls Try.prog 50 #[.slice A n c, .slice B k d] w fun e w' => e = .returned (.bool false) ∧ Up w w' := by
  have hb : ((n : Int) != (k : Int)) = true := bne_iff_ne.mpr (by omega)
  clear hnk
  go_enter Try.func50, Try.ntmps50
  go_wp2
  go_ret
  exact ⟨rfl, Up.refl _⟩

set_option maxHeartbeats 2000000 in
theorem rwords_same (A B : Option Addr) (n c d : Nat) (xs ys : List Int) (w : World) (hx : Rd w A n xs) (hy : Rd w B n ys) (hn : n ≤ maxLen) :
    Calls Try.prog 50 #[.slice A n c, .slice B n d] w fun e w' => e = .returned (.bool (decide (xs = ys))) ∧ Up w w' := by
  have HX := Lib.hid hx
  have HY := Lib.hid hy
  have Lx := Lib.hid hx.1
  have Ly := Lib.hid hy.1
  unfold maxLen at hn
  generalize hB : decide (xs = ys) = bo
  have HB := Lib.hid hB
  clear hx hy hB
  go_enter Try.func50, Try.ntmps50
  go_wp2
  go_loopw [5] (fun i wr => EqRel w xs ys n i wr) (fun i _ => n - (intOf i).toNat)
  case atStart => exact ⟨0, Nat.zero_le _, rfl, rfl, Up.refl _⟩
  case round =>
    obtain ⟨x, hx, rfl, ht, U⟩ := hrel
    have HT := Lib.hid ht
    clear ht
    by_cases hlt : x < n
    · obtain ⟨p, rfl, hcp⟩ := (HX.out.up U).at_ hlt
      obtain ⟨q, rfl, hcq⟩ := (HY.out.up U).at_ hlt
      by_cases e : xs.getD x 0 = ys.getD x 0
      · have E := Lib.hid e
        rw [← e] at hcq
        generalize xs.getD x 0 = u at hcp hcq
        clear e
        go_wp2
        go_region
        all_goals
          go_wp2
          refine ⟨⟨x + 1, by omega, by go_num, take_more HT.out (by rw [Lx.out]; exact hlt) (by rw [Ly.out]; exact hlt) E.out, U.drew⟩, by simp [intOf]; omega⟩
      · have E := Lib.hid e
        have hne : (xs.getD x 0 != ys.getD x 0) = true := bne_iff_ne.mpr e
        generalize xs.getD x 0 = u at hcp hne
        generalize ys.getD x 0 = v at hcq hne
        clear e
        go_wp2
        go_region
        all_goals
          go_wp2
          go_ret
          exact ⟨show Ending.returned (.bool false) = .returned (.bool bo) from by rw [← HB.out, decide_eq_false (ne_of_get E.out)], U.drew⟩
    · obtain rfl : n = x := by omega
      go_wp2
      go_ret
      have h := HT.out
      rw [List.take_of_length_le (by rw [Lx.out]; exact Nat.le_refl _), List.take_of_length_le (by rw [Ly.out]; exact Nat.le_refl _)] at h
      exact ⟨show Ending.returned (.bool true) = .returned (.bool bo) from by rw [← HB.out, decide_eq_true h], U⟩

theorem rwords_any (A B : Option Addr) (n k c d : Nat) (xs ys : List Int) (w : World) (hx : Rd w A n xs) (hy : Rd w B k ys) (hn : n ≤ maxLen) :
    Calls Try.prog 50 #[.slice A n c, .slice B k d] w fun e w' => e = .returned (.bool (decide (xs = ys))) ∧ Up w w' := by
  by_cases h : n = k
  · subst h
    exact rwords_same A B n c d xs ys w hx hy hn
  · rw [decide_eq_false (fun e => h (by rw [← hx.1, ← hy.1, e]))]
    exact rwords_len A B n k c d w h

end Go.Proofs.Ytgcpkgogjcgfbaa
