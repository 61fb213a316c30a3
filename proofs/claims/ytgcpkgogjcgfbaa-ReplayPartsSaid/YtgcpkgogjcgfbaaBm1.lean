/- Package bump and the document's answers for it: contracts of its functions, for every number. -/
import Derived.Test.YtgcpkgogjcgfbaaOb12
import Derived.ScopeJumps
namespace Go.Proofs.Ytgcpkgogjcgfbaa
open Go.ChangeShapes Go.WideShapes Go.ChangeAt Go.RowKit
set_option linter.unusedVariables false
set_option linter.unusedSimpArgs false

/-- Is it a place? -/
def spot (s p : Int) : Prop := (s = 0 ∨ s = 1) ∧ 0 ≤ p ∧ p < 4294967296
instance decSpot (s p : Int) : Decidable (spot s p) := by unfold spot; infer_instance
/-- A place's address. -/
def adr (s p : Int) : Int := (s + 1) * 4294967296 + p

set_option maxHeartbeats 400000 in
theorem addr_ok (s p : Int) (h : spot s p) (w : World) :
    Calls Try.prog 104 #[.int .i64 s, .int .i64 p] w fun e w' => e = .returned (.int .u64 (adr s p)) ∧ w = w' := by
  obtain ⟨h0, h1, h2⟩ := h
  rcases h0 with rfl | rfl
  · go_enter Try.func104, Try.ntmps104
    go_wp2
    go_ret
    exact ⟨ret_int (by unfold adr; omega), rfl⟩
  · go_enter Try.func104, Try.ntmps104
    go_wp2
    go_ret
    exact ⟨ret_int (by unfold adr; omega), rfl⟩

set_option maxHeartbeats 400000 in
theorem addr_no (s p : Int) (h : ¬ spot s p) (w : World) :
    Calls Try.prog 104 #[.int .i64 s, .int .i64 p] w fun e w' => e = .returned (.int .u64 0) ∧ w = w' := by
  unfold spot at h
  by_cases n0 : s < 0
  · clear h
    go_enter Try.func104, Try.ntmps104
    go_wp2
    go_ret
    exact ⟨rfl, rfl⟩
  by_cases n1 : 2 ≤ s
  · clear h
    go_enter Try.func104, Try.ntmps104
    go_wp2
    go_ret
    exact ⟨rfl, rfl⟩
  have m1 : s < 2 := by omega
  by_cases n2 : p < 0
  · clear h
    go_enter Try.func104, Try.ntmps104
    go_wp2
    go_ret
    exact ⟨rfl, rfl⟩
  have n3 : 4294967295 < p := by omega
  clear h
  go_enter Try.func104, Try.ntmps104
  go_wp2
  go_ret
  exact ⟨rfl, rfl⟩

def adrv (s p : Int) : Int := if spot s p then adr s p else 0
theorem addr_any (s p : Int) (w : World) :
    Calls Try.prog 104 #[.int .i64 s, .int .i64 p] w fun e w' => e = .returned (.int .u64 (adrv s p)) ∧ w = w' := by
  by_cases h : spot s p
  · rw [show adrv s p = adr s p from if_pos h]; exact addr_ok s p h w
  · rw [show adrv s p = 0 from if_neg h]; exact addr_no s p h w

set_option maxHeartbeats 400000 in
theorem raddr (s p : Int) (w : World) :
    Calls Try.prog 73 #[.int .i64 s, .int .i64 p] w fun e w' => e = .returned (.int .u64 (adrv s p)) ∧ w = w' := by
  by_cases h : spot s p
  · rw [show adrv s p = adr s p from if_pos h]
    obtain ⟨h0, h1, h2⟩ := h
    rcases h0 with rfl | rfl
    · go_enter Try.func73, Try.ntmps73
      go_wp2
      go_ret
      exact ⟨ret_int (by unfold adr; omega), rfl⟩
    · go_enter Try.func73, Try.ntmps73
      go_wp2
      go_ret
      exact ⟨ret_int (by unfold adr; omega), rfl⟩
  · rw [show adrv s p = 0 from if_neg h]
    unfold spot at h
    by_cases n0 : s ≠ 0 ∧ s ≠ 1
    · obtain ⟨n0, n1⟩ := n0
      clear h
      go_enter Try.func73, Try.ntmps73
      go_wp2
      go_ret
      exact ⟨rfl, rfl⟩
    have hs : s = 0 ∨ s = 1 := by omega
    by_cases n2 : p < 0
    · clear h n0
      rcases hs with rfl | rfl
      · go_enter Try.func73, Try.ntmps73
        go_wp2
        go_ret
        exact ⟨rfl, rfl⟩
      · go_enter Try.func73, Try.ntmps73
        go_wp2
        go_ret
        exact ⟨rfl, rfl⟩
    have n3 : 4294967296 ≤ p := by omega
    clear h n0
    rcases hs with rfl | rfl
    · go_enter Try.func73, Try.ntmps73
      go_wp2
      go_ret
      exact ⟨rfl, rfl⟩
    · go_enter Try.func73, Try.ntmps73
      go_wp2
      go_ret
      exact ⟨rfl, rfl⟩

/-! ### What is right, what is left -/
abbrev bv (s a l : Int) : Value := .agg #[.int .i64 s, .int .i64 a, .int .i64 l]
/-- Is it right? -/
def rgt (s a l : Int) : Prop := (s = 0 ∨ s = 1) ∧ 0 ≤ a ∧ a ≤ l ∧ l ≤ 4096
instance decRgt (s a l : Int) : Decidable (rgt s a l) := by unfold rgt; infer_instance
def rgb (s a l : Int) : Bool := decide (rgt s a l)
def lft (s a l : Int) : Int := if rgt s a l then l - a else 0

/-- The end of a call that answers a Bump in a block of its own, and two numbers. -/
theorem ret_bump {fn : Func} {p u v : Tmp} (h : fn.results = #[.cell p 27, .tmp u, .tmp v]) (tmps : Array Value) (w : World) (g : Nat) (x y z : Int) (a b : Value)
    (hp : tmps.getD p undef = .pointer (some ⟨g, 0, none⟩)) (hg : Blk w g 27 #[.int .i64 x, .int .i64 y, .int .i64 z]) (ha : tmps.getD u undef = a) (hb : tmps.getD v undef = b) :
    (results fn tmps).run Try.prog w = .ok (.tuple #[bv x y z, a, b]) w := by
  have hp' : tmps[p]?.getD undef = .pointer (some ⟨g, 0, none⟩) := by simpa using hp
  have ha' : tmps[u]?.getD undef = a := by simpa using ha
  have hb' : tmps[v]?.getD undef = b := by simpa using hb
  simp [results, h, hp', ha', hb', asAddr, run_loadVar_row w g 27 27 _ _ _ hg Try.underlying27 rfl (by kernel_rfl)]

set_option maxHeartbeats 1000000 in
theorem bright_any (s a l : Int) (w : World) :
    Calls Try.prog 103 #[bv s a l] w fun e w' => e = .returned (.bool (rgb s a l)) ∧ Up w w' := by
  by_cases h : rgt s a l
  · rw [show rgb s a l = true from decide_eq_true h]
    obtain ⟨h0, h1, h2, h3⟩ := h
    rcases h0 with rfl | rfl
    · go_enter Try.func103, Try.ntmps103
      go_wp2
      go_ret
      exact ⟨rfl, (Up.refl _).alloc _⟩
    · go_enter Try.func103, Try.ntmps103
      go_wp2
      go_ret
      exact ⟨rfl, (Up.refl _).alloc _⟩
  · rw [show rgb s a l = false from decide_eq_false h]
    unfold rgt at h
    by_cases n0 : s ≠ 0 ∧ s ≠ 1
    · obtain ⟨n0, n1⟩ := n0
      clear h
      go_enter Try.func103, Try.ntmps103
      go_wp2
      go_ret
      exact ⟨rfl, (Up.refl _).alloc _⟩
    have hs : s = 0 ∨ s = 1 := by omega
    by_cases c0 : a < 0
    · clear h n0
      rcases hs with rfl | rfl
      all_goals
        go_enter Try.func103, Try.ntmps103
        go_wp2
        go_ret
        exact ⟨rfl, (Up.refl _).alloc _⟩
    by_cases c1 : l < a
    · have d0 : 0 ≤ a := by omega
      clear h n0 c0
      rcases hs with rfl | rfl
      all_goals
        go_enter Try.func103, Try.ntmps103
        go_wp2
        go_ret
        exact ⟨rfl, (Up.refl _).alloc _⟩
    have d0 : 0 ≤ a := by omega
    have d1 : a ≤ l := by omega
    have c2 : 4096 < l := by omega
    have c3 : decide (l ≤ 4096) = false := decide_eq_false (by omega)
    clear h n0 c0 c1
    rcases hs with rfl | rfl
    all_goals
      go_enter Try.func103, Try.ntmps103
      go_wp2
      go_ret
      exact ⟨rfl, (Up.refl _).alloc _⟩

set_option maxHeartbeats 1000000 in
theorem left_any (s a l : Int) (w : World) :
    Calls Try.prog 110 #[bv s a l] w fun e w' => e = .returned (.int .i64 (lft s a l)) ∧ Up w w' := by
  by_cases h : rgt s a l
  · have hr := fun w => bright_any s a l w
    rw [show rgb s a l = true from decide_eq_true h] at hr
    rw [show lft s a l = l - a from if_pos h]
    obtain ⟨_, h1, h2, h3⟩ := h
    have hr := Lib.hid hr
    go_enter Try.func110, Try.ntmps110
    go_wp2_with (fail)
    refine (hr.out _).mono ?_
    rintro e w1 ⟨rfl, k1⟩
    have A := (Blk.new w 27 #[.int .i64 s, .int .i64 a, .int .i64 l]).up k1
    have U := ((Up.refl w).alloc (.cells #[.int .i64 s, .int .i64 a, .int .i64 l] 27)).trans k1
    have Ac := A.cell
    clear k1
    go_wp2
    go_ret
    exact ⟨rfl, U⟩
  · have hr := fun w => bright_any s a l w
    rw [show rgb s a l = false from decide_eq_false h] at hr
    rw [show lft s a l = 0 from if_neg h]
    have hr := Lib.hid hr
    clear h
    go_enter Try.func110, Try.ntmps110
    go_wp2_with (fail)
    refine (hr.out _).mono ?_
    rintro e w1 ⟨rfl, k1⟩
    have U := ((Up.refl w).alloc (.cells #[.int .i64 s, .int .i64 a, .int .i64 l] 27)).trans k1
    clear k1
    go_wp2
    go_ret
    exact ⟨rfl, U⟩

/-- How much can be taken: the closure, and the box that it reads. -/
theorem can_any (n x : Int) (g : Nat) (w : World) (hg : Blk w g 3 #[.int .i64 x]) :
    Calls Try.prog 111 #[.int .i64 n, .pointer (some ⟨g, 0, none⟩)] w fun e w' => e = .returned (.int .i64 (if n ≤ x then n else x)) ∧ w = w' := by
  have hc := hg.cell
  by_cases h : n ≤ x
  · rw [if_pos h]
    go_enter Try.func111, Try.ntmps111
    go_wp2
    go_ret
    exact ⟨rfl, rfl⟩
  · rw [if_neg h]
    have h' : x < n := by omega
    go_enter Try.func111, Try.ntmps111
    go_wp2
    go_ret
    exact ⟨rfl, rfl⟩

theorem room_any (s a l : Int) (w : World) :
    Calls Try.prog 102 #[bv s a l] w fun e w' => ∃ g, e = .returned (.func (.func 111) #[] #[.pointer (some ⟨g, 0, none⟩)]) ∧ Up w w' ∧ w.heap.size ≤ g ∧ Blk w' g 3 #[.int .i64 (lft s a l)] := by
  have hl := Lib.hid (left_any s a l)
  go_enter Try.func102, Try.ntmps102
  go_wp2_with (fail)
  refine (hl.out _).mono ?_
  rintro e w1 ⟨rfl, k1⟩
  have U := ((Up.refl w).alloc (.cells #[.int .i64 s, .int .i64 a, .int .i64 l] 27)).trans k1
  clear k1
  go_wp2
  go_ret
  exact ⟨w1.heap.size, rfl, U.alloc _, by simpa using U.size, Blk.new _ _ _⟩

/-! ### What is taken -/
/-- May so many be taken? -/
def may (s a l n : Int) : Prop := rgt s a l ∧ 1 ≤ n ∧ n ≤ l - a
end Go.Proofs.Ytgcpkgogjcgfbaa
