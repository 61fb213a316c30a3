/- Two memories are compared: contracts of Same (the document's, and package arena's). -/
import Derived.Test.YtgcpkgogjcgfbaaSm1
namespace Go.Proofs.Ytgcpkgogjcgfbaa
open Go.ChangeShapes Go.WideShapes Go.ChangeAt Go.RowKit
set_option linter.unusedVariables false
set_option linter.unusedSimpArgs false

set_option maxHeartbeats 2000000 in
theorem rsame_core (N K : Int) (A0 A1 B0 B1 : Option Addr) (n0 n1 k0 k1 c0 c1 d0 d1 : Nat) (w : World) (x y : Bool)
    (h0 : ∀ W, Up w W → Calls Try.prog 50 #[.slice A0 n0 c0, .slice B0 k0 d0] W fun e w' => e = .returned (.bool x) ∧ Up W w')
    (h1 : ∀ W, Up w W → Calls Try.prog 50 #[.slice A1 n1 c1, .slice B1 k1 d1] W fun e w' => e = .returned (.bool y) ∧ Up W w') :
    Calls Try.prog 28 #[.agg #[.int .i64 N, .slice A0 n0 c0, .slice A1 n1 c1], .agg #[.int .i64 K, .slice B0 k0 d0, .slice B1 k1 d1]] w fun e w' => e = .returned (.bool (x && y && decide (N = K))) ∧ Up w w' := by
  have H0 := Lib.hid h0
  have H1 := Lib.hid h1
  clear h0 h1
  by_cases hN : N = K
  · subst hN
    rw [decide_eq_true rfl]
    cases x <;> cases y
    all_goals
      go_enter Try.func28, Try.ntmps28
      go_wp2_with (fail)
      refine (H0.out _ (((Up.refl w).alloc _).alloc _)).mono ?_
      rintro e w1 ⟨rfl, h1⟩
      have D1 := ((Blk.new w 25 _).alloc _).up h1
      have E1 := (Blk.new _ 25 _).up h1
      simp at E1
      have U1 : Up w w1 := (((Up.refl w).alloc _).alloc _).trans h1
      clear h1
      have D1c := D1.cell
      have E1c := E1.cell
      go_wp2_with (fail)
      refine (H1.out _ U1).mono ?_
      rintro e w2 ⟨rfl, h2⟩
      have D2c := (D1.up h2).cell
      have E2c := (E1.up h2).cell
      have U2 := U1.trans h2
      clear D1 E1 D1c E1c h2 U1
      go_wp2
      go_ret
      exact ⟨rfl, U2⟩
  · rw [decide_eq_false hN, Bool.and_false]
    have hb : (N == K) = false := beq_eq_false_iff_ne.mpr hN
    clear hN
    cases x <;> cases y
    all_goals
      go_enter Try.func28, Try.ntmps28
      go_wp2_with (fail)
      refine (H0.out _ (((Up.refl w).alloc _).alloc _)).mono ?_
      rintro e w1 ⟨rfl, h1⟩
      have D1 := ((Blk.new w 25 _).alloc _).up h1
      have E1 := (Blk.new _ 25 _).up h1
      simp at E1
      have U1 : Up w w1 := (((Up.refl w).alloc _).alloc _).trans h1
      clear h1
      have D1c := D1.cell
      have E1c := E1.cell
      go_wp2_with (fail)
      refine (H1.out _ U1).mono ?_
      rintro e w2 ⟨rfl, h2⟩
      have D2c := (D1.up h2).cell
      have E2c := (E1.up h2).cell
      have U2 := U1.trans h2
      clear D1 E1 D1c E1c h2 U1
      go_wp2
      go_ret
      exact ⟨rfl, U2⟩

/-- Memory, right or not. -/
structure Ma where
  N : Int
  xs : List Int
  ys : List Int
def Ma.same (a b : Ma) : Bool := decide (a.xs = b.xs) && decide (a.ys = b.ys) && decide (a.N = b.N)
/-- Memory, right or not, lies there. -/
def Lies (w : World) (m : Ma) (A0 A1 : Option Addr) (n0 n1 c0 c1 : Nat) : Prop := Rd w A0 n0 m.xs ∧ Rd w A1 n1 m.ys ∧ n0 ≤ maxLen ∧ n1 ≤ maxLen
theorem Lies.up {w w' : World} {m : Ma} {A0 A1 : Option Addr} {n0 n1 c0 c1 : Nat} (h : Lies w m A0 A1 n0 n1 c0 c1) (k : Up w w') : Lies w' m A0 A1 n0 n1 c0 c1 := ⟨h.1.up k, h.2.1.up k, h.2.2⟩
def Me.ma (m : Me) : Ma := ⟨m.n, m.xs, m.ys⟩
theorem Sits.lies {w : World} {m : Me} {p q : Addr} {c d : Nat} (h : Sits w m p q c d) : Lies w m.ma (some p) (some q) m.n m.n c d := by
  obtain ⟨⟨_, h1, h2, h3⟩, _, _, _, _, h4, h5⟩ := h
  exact ⟨Rd.of_row h4 h2, Rd.of_row h5 h3, by unfold maxLen; omega, by unfold maxLen; omega⟩

theorem rsame_any (a b : Ma) (A0 A1 B0 B1 : Option Addr) (n0 n1 k0 k1 c0 c1 d0 d1 : Nat) (w : World) (ha : Lies w a A0 A1 n0 n1 c0 c1) (hb : Lies w b B0 B1 k0 k1 d0 d1) :
    Calls Try.prog 28 #[.agg #[.int .i64 a.N, .slice A0 n0 c0, .slice A1 n1 c1], .agg #[.int .i64 b.N, .slice B0 k0 d0, .slice B1 k1 d1]] w fun e w' => e = .returned (.bool (a.same b)) ∧ Up w w' :=
  rsame_core a.N b.N A0 A1 B0 B1 n0 n1 k0 k1 c0 c1 d0 d1 w _ _
    (fun W hU => rwords_any A0 B0 n0 k0 c0 d0 a.xs b.xs W (ha.1.up hU) (hb.1.up hU) ha.2.2.1)
    (fun W hU => rwords_any A1 B1 n1 k1 c1 d1 a.ys b.ys W (ha.2.1.up hU) (hb.2.1.up hU) ha.2.2.2)
/-- The same memory is the same. -/
theorem Ma.same_self (a : Ma) : a.same a = true := by simp [Ma.same]
end Go.Proofs.Ytgcpkgogjcgfbaa
