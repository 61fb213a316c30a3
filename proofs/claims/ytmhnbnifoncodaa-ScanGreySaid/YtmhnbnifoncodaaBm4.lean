/- Package bump: a beginning (New); the document's answers (dovecoteref07). -/
import Derived.Test.YtmhnbnifoncodaaBm3
import Derived.Deep.RegionHeld3
namespace Go.Proofs.Ytmhnbnifoncodaa
open Go.ChangeShapes Go.WideShapes Go.ChangeAt Go.RowKit
set_option linter.unusedVariables false
set_option linter.unusedSimpArgs false

/-- A beginning. -/
def nws (s : Int) : Int := if s = 1 then 1 else 0
def nwl (x : Int) : Int := if 0 < x then x else 0
theorem ret_one {fn : Func} {p : Tmp} (h : fn.results = #[.cell p 27]) (tmps : Array Value) (w : World) (g : Nat) (x y z : Int)
    (hp : tmps.getD p undef = .pointer (some ⟨g, 0, none⟩)) (hg : Blk w g 27 #[.int .i64 x, .int .i64 y, .int .i64 z]) :
    (results fn tmps).run Try.prog w = .ok (bv x y z) w := by
  have hp' : tmps[p]?.getD undef = .pointer (some ⟨g, 0, none⟩) := by simpa using hp
  simp [results, h, hp', asAddr, run_loadVar_row w g 27 27 _ _ _ hg Try.underlying27 rfl (by kernel_rfl)]
set_option maxHeartbeats 1000000 in
theorem rright (s a l : Int) (w : World) :
    Calls Try.prog 27 #[bv s a l] w fun e w' => e = .returned (.bool (rgb s a l)) ∧ Up w w' := by
  by_cases h : rgt s a l
  · rw [show rgb s a l = true from decide_eq_true h]
    obtain ⟨h0, h1, h2, h3⟩ := h
    have e0 : 0 ≤ s := by omega
    have e1 : s ≤ 1 := by omega
    clear h0
    go_enter Try.func27, Try.ntmps27
    go_wp2
    go_ret
    exact ⟨rfl, (Up.refl _).alloc _⟩
  · rw [show rgb s a l = false from decide_eq_false h]
    unfold rgt at h
    by_cases c0 : s < 0
    · clear h
      go_enter Try.func27, Try.ntmps27
      go_wp2
      go_ret
      exact ⟨rfl, (Up.refl _).alloc _⟩
    have e0 : 0 ≤ s := by omega
    by_cases c1 : 1 < s
    · clear h c0
      go_enter Try.func27, Try.ntmps27
      go_wp2
      go_ret
      exact ⟨rfl, (Up.refl _).alloc _⟩
    have e1 : s ≤ 1 := by omega
    by_cases c2 : a < 0
    · clear h c0 c1
      go_enter Try.func27, Try.ntmps27
      go_wp2
      go_ret
      exact ⟨rfl, (Up.refl _).alloc _⟩
    have e2 : 0 ≤ a := by omega
    by_cases c3 : l < a
    · clear h c0 c1 c2
      go_enter Try.func27, Try.ntmps27
      go_wp2
      go_ret
      exact ⟨rfl, (Up.refl _).alloc _⟩
    have e3 : a ≤ l := by omega
    have c4 : decide (l ≤ 4096) = false := decide_eq_false (by omega)
    clear h c0 c1 c2 c3
    go_enter Try.func27, Try.ntmps27
    go_wp2
    go_ret
    exact ⟨rfl, (Up.refl _).alloc _⟩

end Go.Proofs.Ytmhnbnifoncodaa
