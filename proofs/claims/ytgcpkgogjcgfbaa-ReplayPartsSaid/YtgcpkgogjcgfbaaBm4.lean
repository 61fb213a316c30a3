/- Package bump: a beginning (New); the document's answers (dovecoteref07). -/
import Derived.Test.YtgcpkgogjcgfbaaBm3
import Derived.Deep.RegionHeld3
namespace Go.Proofs.Ytgcpkgogjcgfbaa
open Go.ChangeShapes Go.WideShapes Go.ChangeAt Go.RowKit
set_option linter.unusedVariables false
set_option linter.unusedSimpArgs false

/-- A beginning. -/
def nws (s : Int) : Int := if s = 1 then 1 else 0
def nwl (x : Int) : Int := if 0 < x then x else 0
theorem ret_one {fn : Func} {p : Tmp} (h : fn.results = #[.cell p 27]) (tmps : Array Value) (w : World) (g : Nat) (x y z : Int)
    (hp : tmps.getD p undef = .pointer (some ⟨g, 0, none⟩)) (hg : Blk w g 27 #[.int .i64 x, .int .i64 y, .int .i64 z]) :
    (results fn tmps).run Try.prog w = .ok (bv x y z) w := by
  have hp' : tmps[p]?.getD undef = .pointer (some ⟨g, 0, none⟩) := by simpa using hp
  simp [results, h, hp', asAddr, run_loadVar_row w g 27 27 _ _ _ hg Try.underlying27 rfl (by kernel_rfl)]
set_option maxHeartbeats 1000000 in
theorem rright (s a l : Int) (w : World) :
    Calls Try.prog 37 #[bv s a l] w fun e w' => e = .returned (.bool (rgb s a l)) ∧ Up w w' := by
  by_cases h : rgt s a l
  · rw [show rgb s a l = true from decide_eq_true h]
    obtain ⟨h0, h1, h2, h3⟩ := h
    have e0 : 0 ≤ s := by omega
    have e1 : s ≤ 1 := by omega
    clear h0
    go_enter Try.func37, Try.ntmps37
    go_wp2
    go_ret
    exact ⟨rfl, (Up.refl _).alloc _⟩
  · rw [show rgb s a l = false from decide_eq_false h]
    unfold rgt at h
    by_cases c0 : s < 0
    · clear h
      go_enter Try.func37, Try.ntmps37
      go_wp2
      go_ret
      exact ⟨rfl, (Up.refl _).alloc _⟩
    have e0 : 0 ≤ s := by omega
    by_cases c1 : 1 < s
    · clear h c0
      go_enter Try.func37, Try.ntmps37
      go_wp2
      go_ret
      exact ⟨rfl, (Up.refl _).alloc _⟩
    have e1 : s ≤ 1 := by omega
    by_cases c2 : a < 0
    · clear h c0 c1
      go_enter Try.func37, Try.ntmps37
      go_wp2
      go_ret
      exact ⟨rfl, (Up.refl _).alloc _⟩
    have e2 : 0 ≤ a := by omega
    by_cases c3 : l < a
    · clear h c0 c1 c2
      go_enter Try.func37, Try.ntmps37
      go_wp2
      go_ret
      exact ⟨rfl, (Up.refl _).alloc _⟩
    have e3 : a ≤ l := by omega
    have c4 : decide (l ≤ 4096) = false := decide_eq_false (by omega)
    clear h c0 c1 c2 c3
    go_enter Try.func37, Try.ntmps37
    go_wp2
    go_ret
    exact ⟨rfl, (Up.refl _).alloc _⟩

set_option maxHeartbeats 1000000 in
theorem rtake_arg (s a l n : Int) (h : ¬ (rgt s a l ∧ 1 ≤ n)) (w : World) :
    Calls Try.prog 42 #[bv s a l, .int .i64 n] w fun e w' => e = .returned (.tuple #[bv s a l, .int .u64 0, .int .i64 1]) ∧ Up w w' := by
  have hr := Lib.hid (rright s a l)
  by_cases c : rgt s a l
  · have c1 : n < 1 := by
      rcases Int.lt_or_le n 1 with q | q
      · exact q
      · exact absurd ⟨c, q⟩ h
    rw [show rgb s a l = true from decide_eq_true c] at hr
    clear h c
    go_enter Try.func42, Try.ntmps42
    go_wp2_with (fail)
    refine (hr.out _).mono ?_
    rintro e w1 ⟨rfl, k1⟩
    have A := ((Blk.new w 27 #[.int .i64 s, .int .i64 a, .int .i64 l]).alloc (.cells #[.int .i64 0, .int .i64 0, .int .i64 0] 27)).up k1
    have R := (Blk.new' (w.alloc (.cells #[.int .i64 s, .int .i64 a, .int .i64 l] 27)) (g := w.heap.size + 1) (by simp) 27 #[.int .i64 0, .int .i64 0, .int .i64 0]).up k1
    have U := (((Up.refl w).alloc (.cells #[.int .i64 s, .int .i64 a, .int .i64 l] 27)).alloc (.cells #[.int .i64 0, .int .i64 0, .int .i64 0] 27)).trans k1
    clear k1
    have Ac := A.cell
    have Al := A.lt
    have Rc := R.cell
    have Rf := R.frozen
    have Rl := R.lt
    go_wp2
    (try simp only [Exit.inBlock, Exit.then])
    refine bodyPost_ret (ret_bump rfl _ _ _ _ _ _ _ _ rfl (R.set3 _ _ _) rfl rfl) rfl ?_
    exact ⟨rfl, U.set3 (by omega) _ _ _⟩
  · rw [show rgb s a l = false from decide_eq_false c] at hr
    clear h c
    go_enter Try.func42, Try.ntmps42
    go_wp2_with (fail)
    refine (hr.out _).mono ?_
    rintro e w1 ⟨rfl, k1⟩
    have A := ((Blk.new w 27 #[.int .i64 s, .int .i64 a, .int .i64 l]).alloc (.cells #[.int .i64 0, .int .i64 0, .int .i64 0] 27)).up k1
    have R := (Blk.new' (w.alloc (.cells #[.int .i64 s, .int .i64 a, .int .i64 l] 27)) (g := w.heap.size + 1) (by simp) 27 #[.int .i64 0, .int .i64 0, .int .i64 0]).up k1
    have U := (((Up.refl w).alloc (.cells #[.int .i64 s, .int .i64 a, .int .i64 l] 27)).alloc (.cells #[.int .i64 0, .int .i64 0, .int .i64 0] 27)).trans k1
    clear k1
    have Ac := A.cell
    have Al := A.lt
    have Rc := R.cell
    have Rf := R.frozen
    have Rl := R.lt
    go_wp2
    (try simp only [Exit.inBlock, Exit.then])
    refine bodyPost_ret (ret_bump rfl _ _ _ _ _ _ _ _ rfl (R.set3 _ _ _) rfl rfl) rfl ?_
    exact ⟨rfl, U.set3 (by omega) _ _ _⟩

set_option maxHeartbeats 1000000 in
theorem rtake_full (s a l n : Int) (h : rgt s a l) (h1 : 1 ≤ n) (h2 : l - a < n) (w : World) :
    Calls Try.prog 42 #[bv s a l, .int .i64 n] w fun e w' => e = .returned (.tuple #[bv s a l, .int .u64 0, .int .i64 4]) ∧ Up w w' := by
  have hr := Lib.hid (rright s a l)
  rw [show rgb s a l = true from decide_eq_true h] at hr
  have d : decide (l - a < n) = true := decide_eq_true h2
  have d1 : decide (n < 1) = false := decide_eq_false (by omega)
  obtain ⟨_, b1, b2, b3⟩ := h
  clear h1
  go_enter Try.func42, Try.ntmps42
  go_wp2_with (fail)
  refine (hr.out _).mono ?_
  rintro e w1 ⟨rfl, k1⟩
  have A := ((Blk.new w 27 #[.int .i64 s, .int .i64 a, .int .i64 l]).alloc (.cells #[.int .i64 0, .int .i64 0, .int .i64 0] 27)).up k1
  have R := (Blk.new' (w.alloc (.cells #[.int .i64 s, .int .i64 a, .int .i64 l] 27)) (g := w.heap.size + 1) (by simp) 27 #[.int .i64 0, .int .i64 0, .int .i64 0]).up k1
  have U := (((Up.refl w).alloc (.cells #[.int .i64 s, .int .i64 a, .int .i64 l] 27)).alloc (.cells #[.int .i64 0, .int .i64 0, .int .i64 0] 27)).trans k1
  clear k1
  have Ac := A.cell
  have Al := A.lt
  have Rc := R.cell
  have Rf := R.frozen
  have Rl := R.lt
  go_wp2
  (try simp only [Exit.inBlock, Exit.then])
  refine bodyPost_ret (ret_bump rfl _ _ _ _ _ _ _ _ rfl (R.set3 _ _ _) rfl rfl) rfl ?_
  exact ⟨rfl, U.set3 (by omega) _ _ _⟩

set_option maxHeartbeats 1000000 in
theorem brtake_ok (s a l n : Int) (h : may s a l n) (w : World) :
    Calls Try.prog 42 #[bv s a l, .int .i64 n] w fun e w' => e = .returned (.tuple #[bv s (a + n) l, .int .u64 (adr s a), .int .i64 0]) ∧ Up w w' := by
  have hr := Lib.hid (rright s a l)
  obtain ⟨h, h1, h2⟩ := h
  rw [show rgb s a l = true from decide_eq_true h] at hr
  have HA := fun w => raddr s a w
  rw [show adrv s a = adr s a from if_pos ⟨h.1, h.2.1, by have := h.2.2; omega⟩] at HA
  have HA := Lib.hid HA
  have d : decide (l - a < n) = false := decide_eq_false (by omega)
  have d1 : decide (n < 1) = false := decide_eq_false (by omega)
  obtain ⟨_, b1, b2, b3⟩ := h
  have b4 : a + n ≤ 4096 := by omega
  have HX := Lib.hid (show IntKind.i64.wrap (a + n) = a + n from by rw [IntKind.wrap_i64]; omega)
  go_enter Try.func42, Try.ntmps42
  go_wp2_with (fail)
  refine (hr.out _).mono ?_
  rintro e w1 ⟨rfl, k1⟩
  have A := ((Blk.new w 27 #[.int .i64 s, .int .i64 a, .int .i64 l]).alloc (.cells #[.int .i64 0, .int .i64 0, .int .i64 0] 27)).up k1
  have R := (Blk.new' (w.alloc (.cells #[.int .i64 s, .int .i64 a, .int .i64 l] 27)) (g := w.heap.size + 1) (by simp) 27 #[.int .i64 0, .int .i64 0, .int .i64 0]).up k1
  have U := (((Up.refl w).alloc (.cells #[.int .i64 s, .int .i64 a, .int .i64 l] 27)).alloc (.cells #[.int .i64 0, .int .i64 0, .int .i64 0] 27)).trans k1
  clear k1
  have Ac := A.cell
  have Al := A.lt
  have Rc := R.cell
  have Rf := R.frozen
  have Rl := R.lt
  go_wp2_with (fail)
  have A0 := A.drew
  have R0 := R.drew
  have U0 := U.drew
  have R0c := R0.cell
  have R0f := R0.frozen
  have R0l := R0.lt
  clear Al U
  go_region_held3 (fun w' => ∀ i, w'.cell? ⟨w.heap.size, i, none⟩ = (#[.int .i64 s, .int .i64 a, .int .i64 l] : Array Value)[i]?)
    (first
      | exact fun i => A0.cell i
      | exact fun i => (((A0.far (by simp) _).far (by simp) _).far (by simp) _).cell i)
    ((go_at_call 73; ((with_reducible refine (HA.out _).mono ?_); rintro e wz ⟨rfl, rfl⟩)))
  all_goals
    go_wp2_with (fail)
    (try simp only [Exit.inBlock, Exit.then])
    refine bodyPost_ret (ret_bump rfl _ _ _ _ _ _ _ _ rfl (R0.set3 _ _ _) rfl rfl) rfl ?_
    exact ⟨by rw [HX.out]; rfl, U0.set3 (by omega) _ _ _⟩
end Go.Proofs.Ytgcpkgogjcgfbaa
