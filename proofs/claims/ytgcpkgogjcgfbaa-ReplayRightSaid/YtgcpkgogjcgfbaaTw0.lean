/- What twins are, said without the program: which addresses are over there, what is copied, what To and Each answer; and what follows for memory. -/
import Derived.Test.YtgcpkgogjcgfbaaBf10
import Derived.Test.YtgcpkgogjcgfbaaAr6
namespace Go.Proofs.Ytgcpkgogjcgfbaa
open Go.ChangeShapes Go.WideShapes Go.ChangeAt Go.RowKit
set_option linter.unusedVariables false
set_option linter.unusedSimpArgs false

/-- Is an address over there? -/
def ovb (s A : Int) : Bool := whb A && decide (whs A = s)
/-- The first of some that is. -/
def ovr (s : Int) : List Int → Int
  | [] => 0
  | A :: l => if ovb s A then A else ovr s l
theorem ovb_0 (s : Int) : ovb s 0 = false := by
  unfold ovb
  rw [show whb 0 = false from by unfold whb; decide]
  rfl
theorem ovb_pos {s A : Int} (h : ovb s A = true) : A ≠ 0 := fun e => by
  rw [e, ovb_0] at h
  cases h
theorem ovr_2 (s A B : Int) : ovr s [A, B] = if ovb s A then A else if ovb s B then B else 0 := rfl
theorem ovr_1 (s A : Int) : ovr s [A] = if ovb s A then A else 0 := rfl

/-- An object's words. -/
def Me.wn (m : Me) (A : Int) : Int := m.atl A + 2
/-- Memory with the twin that goes to place a of space s. -/
def Me.cpm (m : Me) (s a A : Int) : Me := (m.mv A (adr s a) (m.wn A)).joinm A (adr s a)

/-- What To answers: memory, the place where the space goes on, the address, the error. -/
structure An where
  m : Me
  a : Int
  b : Int
  e : Int
def toa (m : Me) (s a l A : Int) : An :=
  if A = 0 then ⟨m, a, 0, 0⟩
  else if m.kne A ≠ 0 then ⟨m, a, 0, m.kne A⟩
  else if ovb s A then ⟨m, a, A, 0⟩
  else if m.twv A ≠ 0 then (if ovb s (m.twv A) then ⟨m, a, m.twv A, 0⟩ else ⟨m, a, 0, 10⟩)
  else if l - a < m.wn A then ⟨m, a, 0, 4⟩
  else ⟨m.cpm s a A, a + m.wn A, adr s a, 0⟩

/-! ### words of memory -/
theorem sp_put (m : Me) (s t : Int) (L : List Int) (hs : s = 0 ∨ s = 1) (ht : t = 0 ∨ t = 1) : (m.put t L).sp s = if s = t then L else m.sp s := by
  rcases hs with rfl | rfl <;> rcases ht with rfl | rfl <;> simp [Me.sp, Me.put]
theorem put_nn (m : Me) (t : Int) (L : List Int) : (m.put t L).n = m.n := by unfold Me.put; split <;> rfl

theorem adr_is {s a : Int} (hs : s = 0 ∨ s = 1) (h0 : 0 ≤ a) (h1 : a ≤ 4096) : whs (adr s a) = s ∧ whp (adr s a) = a ∧ whb (adr s a) = true :=
  Leads.is (a := adr s a) ⟨hs, h0, by omega, rfl⟩
theorem adr_u64 {s a : Int} (hs : s = 0 ∨ s = 1) (h0 : 0 ≤ a) (h1 : a ≤ 4096) : U64 (adr s a) := by
  unfold adr U64
  rcases hs with rfl | rfl <;> omega
theorem adr_pos {s a : Int} (hs : s = 0 ∨ s = 1) (h0 : 0 ≤ a) : adr s a ≠ 0 := by
  unfold adr
  rcases hs with rfl | rfl <;> omega
theorem ovb_adr {s a : Int} (hs : s = 0 ∨ s = 1) (h0 : 0 ≤ a) (h1 : a ≤ 4096) : ovb s (adr s a) = true := by
  obtain ⟨e1, e2, e3⟩ := adr_is hs h0 h1
  unfold ovb
  rw [e1, e3]
  simp
end Go.Proofs.Ytgcpkgogjcgfbaa
