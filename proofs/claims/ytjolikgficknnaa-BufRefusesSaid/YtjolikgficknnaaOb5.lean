/- An object's twin (object.Twin, Join): contracts of the closures and of the calls. -/
import Derived.Test.YtjolikgficknnaaOb4
namespace Go.Proofs.Ytjolikgficknnaa
open Go.ChangeShapes Go.WideShapes Go.ChangeAt Go.RowKit
set_option linter.unusedVariables false
set_option linter.unusedSimpArgs false

/-- The word of an object's twin is there. -/
theorem tw_off {m : Me} {a : Int} (hn : m.n ≤ 4096) (h : m.kne a = 0) : m.there (a + 1) ∧ 0 ≤ a + 1 ∧ a + 1 ≤ 18446744073709551615 := by
  obtain ⟨h3, h4⟩ := kne_inn h
  exact (inn_off (j := 1) hn h3 (by omega) (by omega)).2.2
def Me.twv (m : Me) (a : Int) : Int := if m.kne a = 0 then m.ld (a + 1) else 0
def Me.joinm (m : Me) (a b : Int) : Me := if m.kne a = 0 then m.sw (a + 1) 0 b else m
def Me.joinb (m : Me) (a : Int) : Bool := if m.kne a = 0 then m.swb (a + 1) 0 else false

/-- What the second closure of Join leaves. -/
def JoinPost (Bo Bj : Nat) (m : Me) (b : Bool) (x : Int) (w : World) (e : Ending) (w' : World) : Prop := e = .returned (.int .i64 x) ∧ Kp [Bo, Bj] w w' ∧ Blk w' Bj 4 #[.bool b] ∧ ∃ P Q c d, Box w' Bo m P Q c d
/-- What the row of Twin comes to. -/
def TwPhi (m : Me) (a : Int) (Bv : Nat) (x : Int) (w' : World) : Prop := x = m.kne a ∧ Blk w' Bv 37 #[.int .u64 (m.twv a)]
/-- What the row of Join comes to. -/
def JnPhi (m : Me) (a b : Int) (Bo Bj : Nat) (x : Int) (w' : World) : Prop := x = m.kne a ∧ Blk w' Bj 4 #[.bool (m.joinb a)] ∧ ∃ P Q c d, Box w' Bo (m.joinm a b) P Q c d
end Go.Proofs.Ytjolikgficknnaa
