/- All fields that are pointers (head.Pointers: a range over a function): contracts. -/
import Derived.Test.YtmjadmoadedghaaHd4
import Derived.RangeFuncBox
import Derived.RangeFuncNested
import Derived.RangeFuncBound
import Derived.RangeFuncCalls
import Derived.RangeFuncLeaves
import Derived.Shelf.Abstract
import Derived.OwnWalkIn
import Derived.TacticsInMore
import Derived.LoopNIn
import Derived.LoopIn
import Derived.Maps.AppendAt
import Derived.Lib.Strings
import Derived.Lib.Slices
import Derived.Lib.Small
import Derived.Lib.Walk
import Derived.Lib.BitFns
namespace Go.Proofs.Ytmjadmoadedghaa
open Go.ChangeShapes Go.WideShapes Go.ChangeAt Go.RowKit
set_option linter.unusedVariables false
set_option linter.unusedSimpArgs false

theorem tab_at' : ∀ n : Fin 256, (Lib.len8 (n.val : Int)) = (Lib.bitLen n.val : Int) := Lib.len8_eq
theorem tab_at (x : Int) (h0 : 0 ≤ x) (h1 : x ≤ 255) (h : x.toNat < Lib.len8tab.size) : ((Lib.len8tab[x.toNat]'h).toNat : Int) = (Lib.bitLen x.toNat : Int) := by
  have e := Lib.len8_of x h0 h1
  unfold Lib.len8 at e
  rw [ByteArray.getElem?_lt' _ _ h] at e
  exact e
theorem w64_nat (n : Nat) (h : n ≤ 1000) : wrap64 (n : Int) = n := by unfold wrap64; omega

set_option maxHeartbeats 400000 in
set_option maxRecDepth 100000 in
/-- How many bits a small number has. -/
theorem len_any (x : Int) (w : World) (h0 : 0 ≤ x) (h1 : x ≤ 65535) :
    Calls Try.prog 82 #[.int .u64 x] w fun e w' => e = .returned (.int .i64 (Lib.bitLen x.toNat)) ∧ w = w' := by
  by_cases c : x < 256
  · have hz : x < (Lib.len8tab.size : Int) := by rw [Lib.len8tab_size]; omega
    have ht : x.toNat < Lib.len8tab.size := by omega
    have T := Lib.hid (tab_at x h0 (by omega) ht)
    have l := Lib.hid (Lib.bitLen_le8' x h0 (by omega))
    go_enter Try.func82, Try.ntmps82
    go_wp2
    go_ret
    have l := l.out
    exact ⟨ret_int (by rw [T.out, w64_nat _ (by omega), w64_nat _ (by omega)]), rfl⟩
  · have c0 : 256 ≤ x := by omega
    have hx0 : 0 ≤ x / 256 := by omega
    have hz : x / 256 < (Lib.len8tab.size : Int) := by rw [Lib.len8tab_size]; omega
    have ht : (x / 256).toNat < Lib.len8tab.size := by omega
    have T := Lib.hid (tab_at (x / 256) hx0 (by omega) ht)
    have l := Lib.hid (Lib.bitLen_le8' (x / 256) hx0 (by omega))
    have s := Lib.hid (Lib.bitLen_shift8 x.toNat (by omega) (by omega))
    have e : Hid ((x / 256).toNat = x.toNat / 256) := Lib.hid (by omega)
    go_enter Try.func82, Try.ntmps82
    go_wp2
    go_ret
    have l := l.out
    exact ⟨ret_int (by rw [T.out, w64_nat _ (by omega), s.out, ← e.out]; unfold wrap64; omega), rfl⟩
theorem len_16 (n : Nat) (h : n ≤ 65535) : Lib.bitLen n ≤ 16 := Lib.bitLenAux_le 64 n 16 (by omega)
theorem len_lt' : ∀ (f x : Nat), x < 2 ^ f → x < 2 ^ Lib.bitLenAux f x
  | 0, x, h => by simpa [Lib.bitLenAux] using h
  | f + 1, x, h => by
    unfold Lib.bitLenAux
    split
    · subst_vars; simp
    · have := len_lt' f (x / 2) (by rw [Nat.pow_succ] at h; omega)
      rw [Nat.pow_add]
      omega
theorem len_lt (n : Nat) (h : n ≤ 65535) : n < 2 ^ Lib.bitLen n := len_lt' 64 n (by omega)
end Go.Proofs.Ytmjadmoadedghaa
