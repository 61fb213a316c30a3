/- Package bump: a beginning (New); the document's answers (dovecoteref07). -/
import Derived.Test.YtgjalgfdpecbpaaBm3
import Derived.Deep.RegionHeld3
namespace Go.Proofs.Ytgjalgfdpecbpaa
open Go.ChangeShapes Go.WideShapes Go.ChangeAt Go.RowKit
set_option linter.unusedVariables false
set_option linter.unusedSimpArgs false

/-- A beginning. -/
def nws (s : Int) : Int := if s = 1 then 1 else 0
def nwl (x : Int) : Int := if 0 < x then x else 0
theorem ret_one {fn : Func} {p : Tmp} (h : fn.results = #[.cell p 23]) (tmps : Array Value) (w : World) (g : Nat) (x y z : Int)
    (hp : tmps.getD p undef = .pointer (some ⟨g, 0, none⟩)) (hg : Blk w g 23 #[.int .i64 x, .int .i64 y, .int .i64 z]) :
    (results fn tmps).run Try.prog w = .ok (bv x y z) w := by
  have hp' : tmps[p]?.getD undef = .pointer (some ⟨g, 0, none⟩) := by simpa using hp
  simp [results, h, hp', asAddr, run_loadVar_row w g 23 23 _ _ _ hg Try.underlying23 rfl (by kernel_rfl)]
set_option maxHeartbeats 1000000 in
theorem new_any (s x : Int) (w : World) :
    Calls Try.prog 17 #[.int .i64 s, .int .i64 x] w fun e w' => e = .returned (bv (nws s) 0 (nwl x)) ∧ Up w w' := by
  by_cases h : s = 1
  · subst h
    rw [show nws 1 = 1 from rfl]
    by_cases k : 0 < x
    · rw [show nwl x = x from if_pos k]
      go_enter Try.func17, Try.ntmps17
      go_wp2
      (try simp only [Exit.inBlock, Exit.then])
      refine bodyPost_ret (ret_one rfl _ _ _ _ _ _ rfl (Blk.new _ _ _) ) rfl ?_
      exact ⟨rfl, (Up.refl _).alloc _⟩
    by_cases z : x = 0
    · subst z
      rw [show nwl 0 = 0 from rfl]
      go_enter Try.func17, Try.ntmps17
      go_wp2
      (try simp only [Exit.inBlock, Exit.then])
      refine bodyPost_ret (ret_one rfl _ _ _ _ _ _ rfl (Blk.new _ _ _) ) rfl ?_
      exact ⟨rfl, (Up.refl _).alloc _⟩
    · rw [show nwl x = 0 from if_neg k]
      have k2 : x < 0 := by omega
      clear k z
      go_enter Try.func17, Try.ntmps17
      go_wp2
      (try simp only [Exit.inBlock, Exit.then])
      refine bodyPost_ret (ret_one rfl _ _ _ _ _ _ rfl (Blk.new _ _ _) ) rfl ?_
      exact ⟨rfl, (Up.refl _).alloc _⟩
  · rw [show nws s = 0 from if_neg h]
    by_cases k : 0 < x
    · rw [show nwl x = x from if_pos k]
      go_enter Try.func17, Try.ntmps17
      go_wp2
      (try simp only [Exit.inBlock, Exit.then])
      refine bodyPost_ret (ret_one rfl _ _ _ _ _ _ rfl (Blk.new _ _ _) ) rfl ?_
      exact ⟨rfl, (Up.refl _).alloc _⟩
    by_cases z : x = 0
    · subst z
      rw [show nwl 0 = 0 from rfl]
      go_enter Try.func17, Try.ntmps17
      go_wp2
      (try simp only [Exit.inBlock, Exit.then])
      refine bodyPost_ret (ret_one rfl _ _ _ _ _ _ rfl (Blk.new _ _ _) ) rfl ?_
      exact ⟨rfl, (Up.refl _).alloc _⟩
    · rw [show nwl x = 0 from if_neg k]
      have k2 : x < 0 := by omega
      clear k z
      go_enter Try.func17, Try.ntmps17
      go_wp2
      (try simp only [Exit.inBlock, Exit.then])
      refine bodyPost_ret (ret_one rfl _ _ _ _ _ _ rfl (Blk.new _ _ _) ) rfl ?_
      exact ⟨rfl, (Up.refl _).alloc _⟩
set_option maxHeartbeats 1000000 in
theorem rnew (s x : Int) (w : World) :
    Calls Try.prog 18 #[.int .i64 s, .int .i64 x] w fun e w' => e = .returned (bv (nws s) 0 (nwl x)) ∧ Up w w' := by
  by_cases h : s = 1
  · subst h
    rw [show nws 1 = 1 from rfl]
    by_cases k : 0 < x
    · rw [show nwl x = x from if_pos k]
      go_enter Try.func18, Try.ntmps18
      go_wp2
      (try simp only [Exit.inBlock, Exit.then])
      refine bodyPost_ret (ret_one rfl _ _ _ _ _ _ rfl ((Blk.new _ _ _).alloc _) ) rfl ?_
      exact ⟨rfl, ((Up.refl _).alloc _).alloc _⟩
    by_cases z : x = 0
    · subst z
      rw [show nwl 0 = 0 from rfl]
      go_enter Try.func18, Try.ntmps18
      go_wp2
      (try simp only [Exit.inBlock, Exit.then])
      refine bodyPost_ret (ret_one rfl _ _ _ _ _ _ rfl ((Blk.new _ _ _).alloc _) ) rfl ?_
      exact ⟨rfl, ((Up.refl _).alloc _).alloc _⟩
    · rw [show nwl x = 0 from if_neg k]
      have k2 : x < 0 := by omega
      clear k z
      go_enter Try.func18, Try.ntmps18
      go_wp2
      (try simp only [Exit.inBlock, Exit.then])
      refine bodyPost_ret (ret_one rfl _ _ _ _ _ _ rfl ((Blk.new _ _ _).alloc _) ) rfl ?_
      exact ⟨rfl, ((Up.refl _).alloc _).alloc _⟩
  · rw [show nws s = 0 from if_neg h]
    by_cases k : 0 < x
    · rw [show nwl x = x from if_pos k]
      go_enter Try.func18, Try.ntmps18
      go_wp2
      (try simp only [Exit.inBlock, Exit.then])
      refine bodyPost_ret (ret_one rfl _ _ _ _ _ _ rfl ((Blk.new _ _ _).alloc _) ) rfl ?_
      exact ⟨rfl, ((Up.refl _).alloc _).alloc _⟩
    by_cases z : x = 0
    · subst z
      rw [show nwl 0 = 0 from rfl]
      go_enter Try.func18, Try.ntmps18
      go_wp2
      (try simp only [Exit.inBlock, Exit.then])
      refine bodyPost_ret (ret_one rfl _ _ _ _ _ _ rfl ((Blk.new _ _ _).alloc _) ) rfl ?_
      exact ⟨rfl, ((Up.refl _).alloc _).alloc _⟩
    · rw [show nwl x = 0 from if_neg k]
      have k2 : x < 0 := by omega
      clear k z
      go_enter Try.func18, Try.ntmps18
      go_wp2
      (try simp only [Exit.inBlock, Exit.then])
      refine bodyPost_ret (ret_one rfl _ _ _ _ _ _ rfl ((Blk.new _ _ _).alloc _) ) rfl ?_
      exact ⟨rfl, ((Up.refl _).alloc _).alloc _⟩

set_option maxHeartbeats 1000000 in
theorem rright (s a l : Int) (w : World) :
    Calls Try.prog 14 #[bv s a l] w fun e w' => e = .returned (.bool (rgb s a l)) ∧ Up w w' := by
  by_cases h : rgt s a l
  · rw [show rgb s a l = true from decide_eq_true h]
    obtain ⟨h0, h1, h2, h3⟩ := h
    have e0 : 0 ≤ s := by omega
    have e1 : s ≤ 1 := by omega
    clear h0
    go_enter Try.func14, Try.ntmps14
    go_wp2
    go_ret
    exact ⟨rfl, (Up.refl _).alloc _⟩
  · rw [show rgb s a l = false from decide_eq_false h]
    unfold rgt at h
    by_cases c0 : s < 0
    · clear h
      go_enter Try.func14, Try.ntmps14
      go_wp2
      go_ret
      exact ⟨rfl, (Up.refl _).alloc _⟩
    have e0 : 0 ≤ s := by omega
    by_cases c1 : 1 < s
    · clear h c0
      go_enter Try.func14, Try.ntmps14
      go_wp2
      go_ret
      exact ⟨rfl, (Up.refl _).alloc _⟩
    have e1 : s ≤ 1 := by omega
    by_cases c2 : a < 0
    · clear h c0 c1
      go_enter Try.func14, Try.ntmps14
      go_wp2
      go_ret
      exact ⟨rfl, (Up.refl _).alloc _⟩
    have e2 : 0 ≤ a := by omega
    by_cases c3 : l < a
    · clear h c0 c1 c2
      go_enter Try.func14, Try.ntmps14
      go_wp2
      go_ret
      exact ⟨rfl, (Up.refl _).alloc _⟩
    have e3 : a ≤ l := by omega
    have c4 : decide (l ≤ 4096) = false := decide_eq_false (by omega)
    clear h c0 c1 c2 c3
    go_enter Try.func14, Try.ntmps14
    go_wp2
    go_ret
    exact ⟨rfl, (Up.refl _).alloc _⟩

set_option maxHeartbeats 1000000 in
theorem rleft (s a l : Int) (w : World) :
    Calls Try.prog 16 #[bv s a l] w fun e w' => e = .returned (.int .i64 (lft s a l)) ∧ Up w w' := by
  by_cases h : rgt s a l
  · skip
    have hr := fun w => rright s a l w
    rw [show rgb s a l = true from decide_eq_true h] at hr
    rw [show lft s a l = l - a from if_pos h]
    obtain ⟨_, h1, h2, h3⟩ := h
    have hr := Lib.hid hr
    go_enter Try.func16, Try.ntmps16
    go_wp2_with (fail)
    refine (hr.out _).mono ?_
    rintro e w1 ⟨rfl, k1⟩
    have A := (Blk.new w 23 #[.int .i64 s, .int .i64 a, .int .i64 l]).up k1
    have U := ((Up.refl w).alloc (.cells #[.int .i64 s, .int .i64 a, .int .i64 l] 23)).trans k1
    have Ac := A.cell
    clear k1
    go_wp2
    go_ret
    exact ⟨rfl, U⟩
  · skip
    have hr := fun w => rright s a l w
    rw [show rgb s a l = false from decide_eq_false h] at hr
    rw [show lft s a l = 0 from if_neg h]
    clear h
    have hr := Lib.hid hr
    go_enter Try.func16, Try.ntmps16
    go_wp2_with (fail)
    refine (hr.out _).mono ?_
    rintro e w1 ⟨rfl, k1⟩
    have A := (Blk.new w 23 #[.int .i64 s, .int .i64 a, .int .i64 l]).up k1
    have U := ((Up.refl w).alloc (.cells #[.int .i64 s, .int .i64 a, .int .i64 l] 23)).trans k1
    have Ac := A.cell
    clear k1
    go_wp2
    go_ret
    exact ⟨rfl, U⟩

set_option maxHeartbeats 1000000 in
theorem rtake_arg (s a l n : Int) (h : ¬ (rgt s a l ∧ 1 ≤ n)) (w : World) :
    Calls Try.prog 10 #[bv s a l, .int .i64 n] w fun e w' => e = .returned (.tuple #[bv s a l, .int .u64 0, .int .i64 1]) ∧ Up w w' := by
  have hr := Lib.hid (rright s a l)
  by_cases c : rgt s a l
  · have c1 : n < 1 := by
      rcases Int.lt_or_le n 1 with q | q
      · exact q
      · exact absurd ⟨c, q⟩ h
    rw [show rgb s a l = true from decide_eq_true c] at hr
    clear h c
    go_enter Try.func10, Try.ntmps10
    go_wp2_with (fail)
    refine (hr.out _).mono ?_
    rintro e w1 ⟨rfl, k1⟩
    have A := ((Blk.new w 23 #[.int .i64 s, .int .i64 a, .int .i64 l]).alloc (.cells #[.int .i64 0, .int .i64 0, .int .i64 0] 23)).up k1
    have R := (Blk.new' (w.alloc (.cells #[.int .i64 s, .int .i64 a, .int .i64 l] 23)) (g := w.heap.size + 1) (by simp) 23 #[.int .i64 0, .int .i64 0, .int .i64 0]).up k1
    have U := (((Up.refl w).alloc (.cells #[.int .i64 s, .int .i64 a, .int .i64 l] 23)).alloc (.cells #[.int .i64 0, .int .i64 0, .int .i64 0] 23)).trans k1
    clear k1
    have Ac := A.cell
    have Al := A.lt
    have Rc := R.cell
    have Rf := R.frozen
    have Rl := R.lt
    go_wp2
    (try simp only [Exit.inBlock, Exit.then])
    refine bodyPost_ret (ret_bump rfl _ _ _ _ _ _ _ _ rfl (R.set3 _ _ _) rfl rfl) rfl ?_
    exact ⟨rfl, U.set3 (by omega) _ _ _⟩
  · rw [show rgb s a l = false from decide_eq_false c] at hr
    clear h c
    go_enter Try.func10, Try.ntmps10
    go_wp2_with (fail)
    refine (hr.out _).mono ?_
    rintro e w1 ⟨rfl, k1⟩
    have A := ((Blk.new w 23 #[.int .i64 s, .int .i64 a, .int .i64 l]).alloc (.cells #[.int .i64 0, .int .i64 0, .int .i64 0] 23)).up k1
    have R := (Blk.new' (w.alloc (.cells #[.int .i64 s, .int .i64 a, .int .i64 l] 23)) (g := w.heap.size + 1) (by simp) 23 #[.int .i64 0, .int .i64 0, .int .i64 0]).up k1
    have U := (((Up.refl w).alloc (.cells #[.int .i64 s, .int .i64 a, .int .i64 l] 23)).alloc (.cells #[.int .i64 0, .int .i64 0, .int .i64 0] 23)).trans k1
    clear k1
    have Ac := A.cell
    have Al := A.lt
    have Rc := R.cell
    have Rf := R.frozen
    have Rl := R.lt
    go_wp2
    (try simp only [Exit.inBlock, Exit.then])
    refine bodyPost_ret (ret_bump rfl _ _ _ _ _ _ _ _ rfl (R.set3 _ _ _) rfl rfl) rfl ?_
    exact ⟨rfl, U.set3 (by omega) _ _ _⟩

set_option maxHeartbeats 1000000 in
theorem rtake_full (s a l n : Int) (h : rgt s a l) (h1 : 1 ≤ n) (h2 : l - a < n) (w : World) :
    Calls Try.prog 10 #[bv s a l, .int .i64 n] w fun e w' => e = .returned (.tuple #[bv s a l, .int .u64 0, .int .i64 4]) ∧ Up w w' := by
  have hr := Lib.hid (rright s a l)
  rw [show rgb s a l = true from decide_eq_true h] at hr
  have d : decide (l - a < n) = true := decide_eq_true h2
  have d1 : decide (n < 1) = false := decide_eq_false (by omega)
  obtain ⟨_, b1, b2, b3⟩ := h
  clear h1
  go_enter Try.func10, Try.ntmps10
  go_wp2_with (fail)
  refine (hr.out _).mono ?_
  rintro e w1 ⟨rfl, k1⟩
  have A := ((Blk.new w 23 #[.int .i64 s, .int .i64 a, .int .i64 l]).alloc (.cells #[.int .i64 0, .int .i64 0, .int .i64 0] 23)).up k1
  have R := (Blk.new' (w.alloc (.cells #[.int .i64 s, .int .i64 a, .int .i64 l] 23)) (g := w.heap.size + 1) (by simp) 23 #[.int .i64 0, .int .i64 0, .int .i64 0]).up k1
  have U := (((Up.refl w).alloc (.cells #[.int .i64 s, .int .i64 a, .int .i64 l] 23)).alloc (.cells #[.int .i64 0, .int .i64 0, .int .i64 0] 23)).trans k1
  clear k1
  have Ac := A.cell
  have Al := A.lt
  have Rc := R.cell
  have Rf := R.frozen
  have Rl := R.lt
  go_wp2
  (try simp only [Exit.inBlock, Exit.then])
  refine bodyPost_ret (ret_bump rfl _ _ _ _ _ _ _ _ rfl (R.set3 _ _ _) rfl rfl) rfl ?_
  exact ⟨rfl, U.set3 (by omega) _ _ _⟩

set_option maxHeartbeats 1000000 in
theorem rtake_ok (s a l n : Int) (h : may s a l n) (w : World) :
    Calls Try.prog 10 #[bv s a l, .int .i64 n] w fun e w' => e = .returned (.tuple #[bv s (a + n) l, .int .u64 (adr s a), .int .i64 0]) ∧ Up w w' := by
  have hr := Lib.hid (rright s a l)
  obtain ⟨h, h1, h2⟩ := h
  rw [show rgb s a l = true from decide_eq_true h] at hr
  have HA := fun w => raddr s a w
  rw [show adrv s a = adr s a from if_pos ⟨h.1, h.2.1, by have := h.2.2; omega⟩] at HA
  have HA := Lib.hid HA
  have d : decide (l - a < n) = false := decide_eq_false (by omega)
  have d1 : decide (n < 1) = false := decide_eq_false (by omega)
  obtain ⟨_, b1, b2, b3⟩ := h
  have b4 : a + n ≤ 4096 := by omega
  have HX := Lib.hid (show IntKind.i64.wrap (a + n) = a + n from by rw [IntKind.wrap_i64]; omega)
  go_enter Try.func10, Try.ntmps10
  go_wp2_with (fail)
  refine (hr.out _).mono ?_
  rintro e w1 ⟨rfl, k1⟩
  have A := ((Blk.new w 23 #[.int .i64 s, .int .i64 a, .int .i64 l]).alloc (.cells #[.int .i64 0, .int .i64 0, .int .i64 0] 23)).up k1
  have R := (Blk.new' (w.alloc (.cells #[.int .i64 s, .int .i64 a, .int .i64 l] 23)) (g := w.heap.size + 1) (by simp) 23 #[.int .i64 0, .int .i64 0, .int .i64 0]).up k1
  have U := (((Up.refl w).alloc (.cells #[.int .i64 s, .int .i64 a, .int .i64 l] 23)).alloc (.cells #[.int .i64 0, .int .i64 0, .int .i64 0] 23)).trans k1
  clear k1
  have Ac := A.cell
  have Al := A.lt
  have Rc := R.cell
  have Rf := R.frozen
  have Rl := R.lt
  go_wp2_with (fail)
  have A0 := A.drew
  have R0 := R.drew
  have U0 := U.drew
  have R0c := R0.cell
  have R0f := R0.frozen
  have R0l := R0.lt
  clear Al U
  go_region_held3 (fun w' => ∀ i, w'.cell? ⟨w.heap.size, i, none⟩ = (#[.int .i64 s, .int .i64 a, .int .i64 l] : Array Value)[i]?)
    (first
      | exact fun i => A0.cell i
      | exact fun i => (((A0.far (by simp) _).far (by simp) _).far (by simp) _).cell i)
    ((go_at_call 22; ((with_reducible refine (HA.out _).mono ?_); rintro e wz ⟨rfl, rfl⟩)))
  all_goals
    go_wp2_with (fail)
    (try simp only [Exit.inBlock, Exit.then])
    refine bodyPost_ret (ret_bump rfl _ _ _ _ _ _ _ _ rfl (R0.set3 _ _ _) rfl rfl) rfl ?_
    exact ⟨by rw [HX.out]; rfl, U0.set3 (by omega) _ _ _⟩
end Go.Proofs.Ytgjalgfdpecbpaa
