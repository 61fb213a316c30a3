/- Bumps and rooms: contracts. -/
import Derived.Test.YtddoljfkbkbfjaaGreatAh
import Derived.ScopeJumps
import Derived.Deep.RegionHeld3
import Derived.Lib.SmallJoins
import Derived.Deep.RegionWith
/-! Of stage 7 -/
namespace Go.Proofs.YtddoljfkbkbfjaaGreat
open Go.ChangeShapes Go.WideShapes Go.ChangeAt Go.RowKit
set_option linter.unusedVariables false
set_option linter.unusedSimpArgs false

/-- Is it a place? -/
def spot (s p : Int) : Prop := (s = 0 ∨ s = 1) ∧ 0 ≤ p ∧ p < 4294967296
instance decSpot (s p : Int) : Decidable (spot s p) := by unfold spot; infer_instance
set_option maxHeartbeats 400000 in
theorem baddr_ok (s p : Int) (h : spot s p) (w : World) :
    Calls Tryz.prog 153 #[.int .i64 s, .int .i64 p] w fun e w' => e = .returned (.int .u64 (adr s p)) ∧ w = w' := by
  obtain ⟨h0, h1, h2⟩ := h
  rcases h0 with rfl | rfl
  · go_enter Tryz.func153, Tryz.ntmps153
    go_wp2
    go_ret
    exact ⟨ret_int (by unfold adr; omega), rfl⟩
  · go_enter Tryz.func153, Tryz.ntmps153
    go_wp2
    go_ret
    exact ⟨ret_int (by unfold adr; omega), rfl⟩

set_option maxHeartbeats 400000 in
theorem baddr_no (s p : Int) (h : ¬ spot s p) (w : World) :
    Calls Tryz.prog 153 #[.int .i64 s, .int .i64 p] w fun e w' => e = .returned (.int .u64 0) ∧ w = w' := by
  unfold spot at h
  by_cases n0 : s < 0
  · clear h
    go_enter Tryz.func153, Tryz.ntmps153
    go_wp2
    go_ret
    exact ⟨rfl, rfl⟩
  by_cases n1 : 2 ≤ s
  · clear h
    go_enter Tryz.func153, Tryz.ntmps153
    go_wp2
    go_ret
    exact ⟨rfl, rfl⟩
  have m1 : s < 2 := by omega
  by_cases n2 : p < 0
  · clear h
    go_enter Tryz.func153, Tryz.ntmps153
    go_wp2
    go_ret
    exact ⟨rfl, rfl⟩
  have n3 : 4294967295 < p := by omega
  clear h
  go_enter Tryz.func153, Tryz.ntmps153
  go_wp2
  go_ret
  exact ⟨rfl, rfl⟩

def adrv (s p : Int) : Int := if spot s p then adr s p else 0
theorem baddr_any (s p : Int) (w : World) :
    Calls Tryz.prog 153 #[.int .i64 s, .int .i64 p] w fun e w' => e = .returned (.int .u64 (adrv s p)) ∧ w = w' := by
  by_cases h : spot s p
  · rw [show adrv s p = adr s p from if_pos h]; exact baddr_ok s p h w
  · rw [show adrv s p = 0 from if_neg h]; exact baddr_no s p h w

/-! ### What is right, what is left -/
abbrev bv (s a l : Int) : Value := .agg #[.int .i64 s, .int .i64 a, .int .i64 l]
/-- Is it right? -/
def rgt (s a l : Int) : Prop := (s = 0 ∨ s = 1) ∧ 0 ≤ a ∧ a ≤ l ∧ l ≤ 4096
instance decRgt (s a l : Int) : Decidable (rgt s a l) := by unfold rgt; infer_instance
def rgb (s a l : Int) : Bool := decide (rgt s a l)
def lft (s a l : Int) : Int := if rgt s a l then l - a else 0

/-- The end of a call that answers a Bump in a block of its own, and two numbers. -/
theorem ret_bump {fn : Func} {p u v : Tmp} (h : fn.results = #[.cell p 27, .tmp u, .tmp v]) (tmps : Array Value) (w : World) (g : Nat) (x y z : Int) (a b : Value)
    (hp : tmps.getD p undef = .pointer (some ⟨g, 0, none⟩)) (hg : Blk w g 27 #[.int .i64 x, .int .i64 y, .int .i64 z]) (ha : tmps.getD u undef = a) (hb : tmps.getD v undef = b) :
    (results fn tmps).run Tryz.prog w = .ok (.tuple #[bv x y z, a, b]) w := by
  have hp' : tmps[p]?.getD undef = .pointer (some ⟨g, 0, none⟩) := by simpa using hp
  have ha' : tmps[u]?.getD undef = a := by simpa using ha
  have hb' : tmps[v]?.getD undef = b := by simpa using hb
  simp [results, h, hp', ha', hb', asAddr, run_loadVar_row w g 27 27 _ _ _ hg Tryz.underlying27 rfl (by kernel_rfl)]

set_option maxHeartbeats 1000000 in
theorem bright_any (s a l : Int) (w : World) :
    Calls Tryz.prog 160 #[bv s a l] w fun e w' => e = .returned (.bool (rgb s a l)) ∧ Up w w' := by
  by_cases h : rgt s a l
  · rw [show rgb s a l = true from decide_eq_true h]
    obtain ⟨h0, h1, h2, h3⟩ := h
    rcases h0 with rfl | rfl
    · go_enter Tryz.func160, Tryz.ntmps160
      go_wp2
      go_ret
      exact ⟨rfl, (Up.refl _).alloc _⟩
    · go_enter Tryz.func160, Tryz.ntmps160
      go_wp2
      go_ret
      exact ⟨rfl, (Up.refl _).alloc _⟩
  · rw [show rgb s a l = false from decide_eq_false h]
    unfold rgt at h
    by_cases n0 : s ≠ 0 ∧ s ≠ 1
    · obtain ⟨n0, n1⟩ := n0
      clear h
      go_enter Tryz.func160, Tryz.ntmps160
      go_wp2
      go_ret
      exact ⟨rfl, (Up.refl _).alloc _⟩
    have hs : s = 0 ∨ s = 1 := by omega
    by_cases c0 : a < 0
    · clear h n0
      rcases hs with rfl | rfl
      all_goals
        go_enter Tryz.func160, Tryz.ntmps160
        go_wp2
        go_ret
        exact ⟨rfl, (Up.refl _).alloc _⟩
    by_cases c1 : l < a
    · have d0 : 0 ≤ a := by omega
      clear h n0 c0
      rcases hs with rfl | rfl
      all_goals
        go_enter Tryz.func160, Tryz.ntmps160
        go_wp2
        go_ret
        exact ⟨rfl, (Up.refl _).alloc _⟩
    have d0 : 0 ≤ a := by omega
    have d1 : a ≤ l := by omega
    have c2 : 4096 < l := by omega
    have c3 : decide (l ≤ 4096) = false := decide_eq_false (by omega)
    clear h n0 c0 c1
    rcases hs with rfl | rfl
    all_goals
      go_enter Tryz.func160, Tryz.ntmps160
      go_wp2
      go_ret
      exact ⟨rfl, (Up.refl _).alloc _⟩

set_option maxHeartbeats 1000000 in
theorem left_any (s a l : Int) (w : World) :
    Calls Tryz.prog 169 #[bv s a l] w fun e w' => e = .returned (.int .i64 (lft s a l)) ∧ Up w w' := by
  by_cases h : rgt s a l
  · have hr := fun w => bright_any s a l w
    rw [show rgb s a l = true from decide_eq_true h] at hr
    rw [show lft s a l = l - a from if_pos h]
    obtain ⟨_, h1, h2, h3⟩ := h
    have hr := Lib.hid hr
    go_enter Tryz.func169, Tryz.ntmps169
    go_wp2_with (fail)
    refine (hr.out _).mono ?_
    rintro e w1 ⟨rfl, k1⟩
    have A := (Blk.new w 27 #[.int .i64 s, .int .i64 a, .int .i64 l]).up k1
    have U := ((Up.refl w).alloc (.cells #[.int .i64 s, .int .i64 a, .int .i64 l] 27)).trans k1
    have Ac := A.cell
    clear k1
    go_wp2
    go_ret
    exact ⟨rfl, U⟩
  · have hr := fun w => bright_any s a l w
    rw [show rgb s a l = false from decide_eq_false h] at hr
    rw [show lft s a l = 0 from if_neg h]
    have hr := Lib.hid hr
    clear h
    go_enter Tryz.func169, Tryz.ntmps169
    go_wp2_with (fail)
    refine (hr.out _).mono ?_
    rintro e w1 ⟨rfl, k1⟩
    have U := ((Up.refl w).alloc (.cells #[.int .i64 s, .int .i64 a, .int .i64 l] 27)).trans k1
    clear k1
    go_wp2
    go_ret
    exact ⟨rfl, U⟩

/-- How much can be taken: the closure, and the box that it reads. -/
theorem can_any (n x : Int) (g : Nat) (w : World) (hg : Blk w g 3 #[.int .i64 x]) :
    Calls Tryz.prog 170 #[.int .i64 n, .pointer (some ⟨g, 0, none⟩)] w fun e w' => e = .returned (.int .i64 (if n ≤ x then n else x)) ∧ w = w' := by
  have hc := hg.cell
  by_cases h : n ≤ x
  · rw [if_pos h]
    go_enter Tryz.func170, Tryz.ntmps170
    go_wp2
    go_ret
    first
      | exact ⟨rfl, rfl⟩
      | (refine ⟨?_, rfl⟩; show Ending.returned (.int .i64 (min n x)) = _; rw [show min n x = n from by omega])
  · rw [if_neg h]
    have h' : x < n := by omega
    go_enter Tryz.func170, Tryz.ntmps170
    go_wp2
    go_ret
    first
      | exact ⟨rfl, rfl⟩
      | (refine ⟨?_, rfl⟩; show Ending.returned (.int .i64 (min n x)) = _; rw [show min n x = x from by omega])

theorem room_any (s a l : Int) (w : World) :
    Calls Tryz.prog 159 #[bv s a l] w fun e w' => ∃ g, e = .returned (.func (.func 170) #[] #[.pointer (some ⟨g, 0, none⟩)]) ∧ Up w w' ∧ w.heap.size ≤ g ∧ Blk w' g 3 #[.int .i64 (lft s a l)] := by
  have hl := Lib.hid (left_any s a l)
  go_enter Tryz.func159, Tryz.ntmps159
  go_wp2_with (fail)
  refine (hl.out _).mono ?_
  rintro e w1 ⟨rfl, k1⟩
  have U := ((Up.refl w).alloc (.cells #[.int .i64 s, .int .i64 a, .int .i64 l] 27)).trans k1
  clear k1
  go_wp2
  go_ret
  exact ⟨w1.heap.size, rfl, U.alloc _, by simpa using U.size, Blk.new _ _ _⟩

/-! ### What is taken -/
/-- May so many be taken? -/
def may (s a l n : Int) : Prop := rgt s a l ∧ 1 ≤ n ∧ n ≤ l - a

end Go.Proofs.YtddoljfkbkbfjaaGreat
/-! Of stage 7 -/
namespace Go.Proofs.YtddoljfkbkbfjaaGreat
open Go.ChangeShapes Go.WideShapes Go.ChangeAt Go.RowKit
set_option linter.unusedVariables false
set_option linter.unusedSimpArgs false

set_option maxHeartbeats 1000000 in
theorem take_arg (s a l n : Int) (h : ¬ (rgt s a l ∧ 1 ≤ n)) (w : World) :
    Calls Tryz.prog 150 #[bv s a l, .int .i64 n] w fun e w' => e = .returned (.tuple #[bv s a l, .int .u64 0, .int .i64 1]) ∧ Up w w' := by
  have hr := Lib.hid (bright_any s a l)
  have hm := Lib.hid (room_any s a l)
  by_cases c : rgt s a l
  · have c1 : n < 1 := by
      rcases Int.lt_or_le n 1 with q | q
      · exact q
      · exact absurd ⟨c, q⟩ h
    rw [show rgb s a l = true from decide_eq_true c] at hr
    clear h c
    go_enter Tryz.func150, Tryz.ntmps150
    go_wp2_with (fail)
    refine (hm.out _).mono ?_
    rintro e w1 ⟨g, rfl, k1, hge, G⟩
    have A := ((Blk.new w 27 #[.int .i64 s, .int .i64 a, .int .i64 l]).alloc (.cells #[.int .i64 0, .int .i64 0, .int .i64 0] 27)).up k1
    have R := (Blk.new' (w.alloc (.cells #[.int .i64 s, .int .i64 a, .int .i64 l] 27)) (g := w.heap.size + 1) (by simp) 27 #[.int .i64 0, .int .i64 0, .int .i64 0]).up k1
    have U := (((Up.refl w).alloc (.cells #[.int .i64 s, .int .i64 a, .int .i64 l] 27)).alloc (.cells #[.int .i64 0, .int .i64 0, .int .i64 0] 27)).trans k1
    have Ac := A.cell
    clear k1 hge
    go_wp2_with (fail)
    refine (hr.out _).mono ?_
    rintro e w2 ⟨rfl, k2⟩
    replace A := A.up k2
    replace R := R.up k2
    replace G := G.up k2
    replace U := U.trans k2
    clear k2 Ac
    have Ac := A.cell
    have Af := A.frozen
    have Al := A.lt
    have Rc := R.cell
    have Rf := R.frozen
    have Rl := R.lt
    go_wp2
    (try simp only [Exit.inBlock, Exit.then])
    refine bodyPost_ret (ret_bump rfl _ _ _ _ _ _ _ _ rfl (R.set3 _ _ _) rfl rfl) rfl ?_
    exact ⟨rfl, U.set3 (by omega) _ _ _⟩
  · rw [show rgb s a l = false from decide_eq_false c] at hr
    clear h c
    go_enter Tryz.func150, Tryz.ntmps150
    go_wp2_with (fail)
    refine (hm.out _).mono ?_
    rintro e w1 ⟨g, rfl, k1, hge, G⟩
    have A := ((Blk.new w 27 #[.int .i64 s, .int .i64 a, .int .i64 l]).alloc (.cells #[.int .i64 0, .int .i64 0, .int .i64 0] 27)).up k1
    have R := (Blk.new' (w.alloc (.cells #[.int .i64 s, .int .i64 a, .int .i64 l] 27)) (g := w.heap.size + 1) (by simp) 27 #[.int .i64 0, .int .i64 0, .int .i64 0]).up k1
    have U := (((Up.refl w).alloc (.cells #[.int .i64 s, .int .i64 a, .int .i64 l] 27)).alloc (.cells #[.int .i64 0, .int .i64 0, .int .i64 0] 27)).trans k1
    have Ac := A.cell
    clear k1 hge
    go_wp2_with (fail)
    refine (hr.out _).mono ?_
    rintro e w2 ⟨rfl, k2⟩
    replace A := A.up k2
    replace R := R.up k2
    replace G := G.up k2
    replace U := U.trans k2
    clear k2 Ac
    have Ac := A.cell
    have Af := A.frozen
    have Al := A.lt
    have Rc := R.cell
    have Rf := R.frozen
    have Rl := R.lt
    go_wp2
    (try simp only [Exit.inBlock, Exit.then])
    refine bodyPost_ret (ret_bump rfl _ _ _ _ _ _ _ _ rfl (R.set3 _ _ _) rfl rfl) rfl ?_
    exact ⟨rfl, U.set3 (by omega) _ _ _⟩

set_option maxHeartbeats 1000000 in
theorem take_full (s a l n : Int) (h : rgt s a l) (h1 : 1 ≤ n) (h2 : l - a < n) (w : World) :
    Calls Tryz.prog 150 #[bv s a l, .int .i64 n] w fun e w' => e = .returned (.tuple #[bv s a l, .int .u64 0, .int .i64 4]) ∧ Up w w' := by
  have hr := Lib.hid (bright_any s a l)
  have hm := Lib.hid (room_any s a l)
  rw [show rgb s a l = true from decide_eq_true h] at hr
  rw [show lft s a l = l - a from if_pos h] at hm
  have C0 : ∀ g w, Blk w g 3 #[.int .i64 (l - a)] → Calls Tryz.prog 170 #[.int .i64 n, .pointer (some ⟨g, 0, none⟩)] w fun e w' => e = .returned (.int .i64 (l - a)) ∧ w = w' := fun g w G => by
    have := can_any n (l - a) g w G
    rwa [if_neg (by omega)] at this
  have C0 := Lib.hid C0
  have d : decide (l - a < n) = true := decide_eq_true h2
  have d1 : ¬ n < 1 := by omega
  clear h h2
  go_enter Tryz.func150, Tryz.ntmps150
  go_wp2_with (fail)
  refine (hm.out _).mono ?_
  rintro e w1 ⟨g, rfl, k1, hge, G⟩
  have A := ((Blk.new w 27 #[.int .i64 s, .int .i64 a, .int .i64 l]).alloc (.cells #[.int .i64 0, .int .i64 0, .int .i64 0] 27)).up k1
  have R := (Blk.new' (w.alloc (.cells #[.int .i64 s, .int .i64 a, .int .i64 l] 27)) (g := w.heap.size + 1) (by simp) 27 #[.int .i64 0, .int .i64 0, .int .i64 0]).up k1
  have U := (((Up.refl w).alloc (.cells #[.int .i64 s, .int .i64 a, .int .i64 l] 27)).alloc (.cells #[.int .i64 0, .int .i64 0, .int .i64 0] 27)).trans k1
  have Ac := A.cell
  clear k1 hge
  go_wp2_with (fail)
  refine (hr.out _).mono ?_
  rintro e w2 ⟨rfl, k2⟩
  replace A := A.up k2
  replace R := R.up k2
  replace G := G.up k2
  replace U := U.trans k2
  clear k2 Ac
  have Ac := A.cell
  have Af := A.frozen
  have Al := A.lt
  have Rc := R.cell
  have Rf := R.frozen
  have Rl := R.lt
  have C := Lib.hid (C0.out g w2 G)
  go_wp2_with (fail)
  refine C.out.mono ?_
  rintro e w3 ⟨rfl, rfl⟩
  go_wp2
  (try simp only [Exit.inBlock, Exit.then])
  refine bodyPost_ret (ret_bump rfl _ _ _ _ _ _ _ _ rfl (R.set3 _ _ _) rfl rfl) rfl ?_
  exact ⟨rfl, U.set3 (by omega) _ _ _⟩

set_option maxHeartbeats 1000000 in
theorem btake_ok (s a l n : Int) (h : may s a l n) (w : World) :
    Calls Tryz.prog 150 #[bv s a l, .int .i64 n] w fun e w' => e = .returned (.tuple #[bv s (a + n) l, .int .u64 (adr s a), .int .i64 0]) ∧ Up w w' := by
  obtain ⟨h, h1, h2⟩ := h
  have hr := Lib.hid (bright_any s a l)
  have hm := Lib.hid (room_any s a l)
  rw [show rgb s a l = true from decide_eq_true h] at hr
  rw [show lft s a l = l - a from if_pos h] at hm
  have C0 : ∀ g w, Blk w g 3 #[.int .i64 (l - a)] → Calls Tryz.prog 170 #[.int .i64 n, .pointer (some ⟨g, 0, none⟩)] w fun e w' => e = .returned (.int .i64 n) ∧ w = w' := fun g w G => by
    have := can_any n (l - a) g w G
    rwa [if_pos (by omega)] at this
  have C0 := Lib.hid C0
  have HA := Lib.hid (baddr_ok s a ⟨h.1, h.2.1, by have := h.2.2; omega⟩)
  have d1 : ¬ n < 1 := by omega
  have b0 : 0 ≤ a := h.2.1
  have b1 : a + n ≤ 4096 := by have := h.2.2; omega
  clear h h2
  go_enter Tryz.func150, Tryz.ntmps150
  go_wp2_with (fail)
  refine (hm.out _).mono ?_
  rintro e w1 ⟨g, rfl, k1, hge, G⟩
  have A := ((Blk.new w 27 #[.int .i64 s, .int .i64 a, .int .i64 l]).alloc (.cells #[.int .i64 0, .int .i64 0, .int .i64 0] 27)).up k1
  have R := (Blk.new' (w.alloc (.cells #[.int .i64 s, .int .i64 a, .int .i64 l] 27)) (g := w.heap.size + 1) (by simp) 27 #[.int .i64 0, .int .i64 0, .int .i64 0]).up k1
  have U := (((Up.refl w).alloc (.cells #[.int .i64 s, .int .i64 a, .int .i64 l] 27)).alloc (.cells #[.int .i64 0, .int .i64 0, .int .i64 0] 27)).trans k1
  have Ac := A.cell
  clear k1 hge
  go_wp2_with (fail)
  refine (hr.out _).mono ?_
  rintro e w2 ⟨rfl, k2⟩
  replace A := A.up k2
  replace R := R.up k2
  replace G := G.up k2
  replace U := U.trans k2
  clear k2 Ac
  have Ac := A.cell
  have Af := A.frozen
  have Al := A.lt
  have Rc := R.cell
  have Rf := R.frozen
  have Rl := R.lt
  have C := Lib.hid (C0.out g w2 G)
  go_wp2_with (fail)
  refine C.out.mono ?_
  rintro e w3 ⟨rfl, rfl⟩
  go_wp2_with (fail)
  refine (HA.out _).mono ?_
  rintro e w4 ⟨rfl, rfl⟩
  go_wp2_with (fail)
  (try simp only [Exit.inBlock, Exit.then])
  refine bodyPost_ret (ret_bump rfl _ _ _ _ _ _ _ _ rfl ((R.far (p := ⟨w.heap.size, 1, none⟩) (by simp) _).set3 _ _ _) rfl rfl) rfl ?_
  exact ⟨rfl, (U.setCell (Nat.le_refl _) _).set3 (by omega) _ _ _⟩

/-! ### The same, told by functions -/
instance decMay (s a l n : Int) : Decidable (may s a l n) := by unfold may; infer_instance
def tka (s a l n : Int) : Int := if may s a l n then a + n else a
def tkw (s a l n : Int) : Int := if may s a l n then adr s a else 0
def btke (s a l n : Int) : Int := if may s a l n then 0 else if rgt s a l ∧ 1 ≤ n then 4 else 1
theorem btake_any (s a l n : Int) (w : World) :
    Calls Tryz.prog 150 #[bv s a l, .int .i64 n] w fun e w' => e = .returned (.tuple #[bv s (tka s a l n) l, .int .u64 (tkw s a l n), .int .i64 (btke s a l n)]) ∧ Up w w' := by
  unfold tka tkw btke
  by_cases h : may s a l n
  · rw [if_pos h, if_pos h, if_pos h]; exact btake_ok s a l n h w
  · rw [if_neg h, if_neg h, if_neg h]
    by_cases c : rgt s a l ∧ 1 ≤ n
    · rw [if_pos c]; exact take_full s a l n c.1 c.2 (by have := fun q => h ⟨c.1, c.2, q⟩; rcases Int.lt_or_le (l - a) n with q | q; exact q; exact absurd q this) w
    · rw [if_neg c]; exact take_arg s a l n c w

end Go.Proofs.YtddoljfkbkbfjaaGreat
/-! Of stage 7 -/
namespace Go.Proofs.YtddoljfkbkbfjaaGreat
open Go.ChangeShapes Go.WideShapes Go.ChangeAt Go.RowKit
set_option linter.unusedVariables false
set_option linter.unusedSimpArgs false


/-- What holds at the label: n is what is left. -/
def AtAgain (s a l m : Int) (w : World) (a' : Act) (w' : World) : Prop :=
  ∃ (g : Nat) (u8 u9 u10 u11 u12 u13 u14 u15 u16 u17 u18 u19 u20 u21 u22 u23 u24 u25 u26 u27 u28 u29 u30 u31 : Value),
    a' = { tmps := #[bv s a l, .int .i64 m, .pointer (some ⟨w.heap.size, 0, none⟩), undef, .pointer (some ⟨w.heap.size + 1, 0, none⟩), .int .u64 0, .int .i64 0, .func (.func 170) #[] #[.pointer (some ⟨g, 0, none⟩)], u8, u9, u10, u11, u12, u13, u14, u15, u16, u17, u18, u19, u20, u21, u22, u23, u24, u25, u26, u27, u28, u29, u30, u31], defers := [] }
      ∧ Up w w' ∧ Blk w' w.heap.size 27 #[.int .i64 s, .int .i64 a, .int .i64 l] ∧ Blk w' (w.heap.size + 1) 27 #[.int .i64 0, .int .i64 0, .int .i64 0]

set_option maxHeartbeats 400000 in
theorem most_ok (s a l n : Int) (h : may s a l n) (w : World) :
    Calls Tryz.prog 154 #[bv s a l, .int .i64 n] w fun e w' => e = .returned (.tuple #[bv s (a + n) l, .int .u64 (adr s a), .int .i64 n]) ∧ Up w w' := by
  have hm := Lib.hid (room_any s a l)
  have ht := Lib.hid (btake_ok s a l n h)
  clear h
  go_enter Tryz.func154, Tryz.ntmps154
  go_wp2
  refine wp_scope_jumps 0 (fun _ _ => False) (fun a' _ => 0) rfl ?_ ?_
  · have hc := Lib.hid (hm.out ((w.alloc (.cells #[.int .i64 s, .int .i64 a, .int .i64 l] 27)).alloc (.cells #[.int .i64 0, .int .i64 0, .int .i64 0] 27)))
    go_wp2_with (fail)
    refine hc.out.mono ?_
    rintro e w1 ⟨g, rfl, k1, hge, G⟩
    have A := ((Blk.new w 27 #[.int .i64 s, .int .i64 a, .int .i64 l]).alloc (.cells #[.int .i64 0, .int .i64 0, .int .i64 0] 27)).up k1
    have R := (Blk.new' (w.alloc (.cells #[.int .i64 s, .int .i64 a, .int .i64 l] 27)) (g := w.heap.size + 1) (by simp) 27 #[.int .i64 0, .int .i64 0, .int .i64 0]).up k1
    have U := (((Up.refl w).alloc (.cells #[.int .i64 s, .int .i64 a, .int .i64 l] 27)).alloc (.cells #[.int .i64 0, .int .i64 0, .int .i64 0] 27)).trans k1
    have Ac := A.cell
    clear k1 hge hc
    go_wp2_with (fail)
    go_step3
    go_wp2_with (fail)
    refine (ht.out _).mono ?_
    rintro e w2 ⟨rfl, k2⟩
    replace A := A.up k2
    replace R := R.up k2
    replace U := U.trans k2
    clear k2 Ac
    have Ac := A.cell
    have Al := A.lt
    have Rc := R.cell
    have Rf := R.frozen
    have Rl := R.lt
    go_wp2_with (fail)
    (try simp only [Exit.inBlock, Exit.then])
    (try simp only [Exit.jump])
    refine bodyPost_ret (ret_bump rfl _ _ _ _ _ _ _ _ rfl ((R.set3 _ _ _).alloc _) rfl rfl) rfl ?_
    exact ⟨rfl, (U.set3 (by omega) _ _ _).alloc _⟩
  · exact fun _ _ hf => hf.elim

set_option maxHeartbeats 400000 in
theorem most_arg (s a l n : Int) (h : ¬ (rgt s a l ∧ 1 ≤ n)) (w : World) :
    Calls Tryz.prog 154 #[bv s a l, .int .i64 n] w fun e w' => e = .returned (.tuple #[bv s a l, .int .u64 0, .int .i64 0]) ∧ Up w w' := by
  have hm := Lib.hid (room_any s a l)
  have ht := Lib.hid (take_arg s a l n h)
  clear h
  go_enter Tryz.func154, Tryz.ntmps154
  go_wp2
  refine wp_scope_jumps 0 (fun _ _ => False) (fun a' _ => 0) rfl ?_ ?_
  · have hc := Lib.hid (hm.out ((w.alloc (.cells #[.int .i64 s, .int .i64 a, .int .i64 l] 27)).alloc (.cells #[.int .i64 0, .int .i64 0, .int .i64 0] 27)))
    go_wp2_with (fail)
    refine hc.out.mono ?_
    rintro e w1 ⟨g, rfl, k1, hge, G⟩
    have A := ((Blk.new w 27 #[.int .i64 s, .int .i64 a, .int .i64 l]).alloc (.cells #[.int .i64 0, .int .i64 0, .int .i64 0] 27)).up k1
    have R := (Blk.new' (w.alloc (.cells #[.int .i64 s, .int .i64 a, .int .i64 l] 27)) (g := w.heap.size + 1) (by simp) 27 #[.int .i64 0, .int .i64 0, .int .i64 0]).up k1
    have U := (((Up.refl w).alloc (.cells #[.int .i64 s, .int .i64 a, .int .i64 l] 27)).alloc (.cells #[.int .i64 0, .int .i64 0, .int .i64 0] 27)).trans k1
    have Ac := A.cell
    clear k1 hge hc
    go_wp2_with (fail)
    go_step3
    go_wp2_with (fail)
    refine (ht.out _).mono ?_
    rintro e w2 ⟨rfl, k2⟩
    replace A := A.up k2
    replace R := R.up k2
    replace U := U.trans k2
    clear k2 Ac
    have Ac := A.cell
    have Al := A.lt
    have Rc := R.cell
    have Rf := R.frozen
    have Rl := R.lt
    go_wp2_with (fail)
    (try simp only [Exit.inBlock, Exit.then])
    (try simp only [Exit.jump])
    refine bodyPost_ret (ret_bump rfl _ _ _ _ _ _ _ _ rfl ((R.set3 _ _ _).alloc _) rfl rfl) rfl ?_
    exact ⟨rfl, (U.set3 (by omega) _ _ _).alloc _⟩
  · exact fun _ _ hf => hf.elim

set_option maxHeartbeats 400000 in
theorem most_all (s a l n : Int) (h : rgt s a l) (h1 : 1 ≤ n) (h2 : l - a < n) (h3 : 1 ≤ l - a) (w : World) :
    Calls Tryz.prog 154 #[bv s a l, .int .i64 n] w fun e w' => e = .returned (.tuple #[bv s (a + (l - a)) l, .int .u64 (adr s a), .int .i64 (l - a)]) ∧ Up w w' := by
  have hm := Lib.hid (room_any s a l)
  rw [show lft s a l = l - a from if_pos h] at hm
  have C0 : ∀ g w, Blk w g 3 #[.int .i64 (l - a)] → Calls Tryz.prog 170 #[.int .i64 n, .pointer (some ⟨g, 0, none⟩)] w fun e w' => e = .returned (.int .i64 (l - a)) ∧ w = w' := fun g w G => by
    have := can_any n (l - a) g w G
    rwa [if_neg (by omega)] at this
  have C0 := Lib.hid C0
  have ht := Lib.hid (take_full s a l n h h1 h2)
  have hu := Lib.hid (btake_ok s a l (l - a) ⟨h, h3, Int.le_refl _⟩)
  clear h h1 h2 h3
  obtain ⟨m, hmm⟩ : ∃ m, l - a = m := ⟨_, rfl⟩
  rw [hmm] at hm C0 hu
  try rw [hmm]
  go_enter Tryz.func154, Tryz.ntmps154
  go_wp2
  refine wp_scope_jumps 0 (AtAgain s a l m w) (fun a' _ => 0) rfl ?_ ?_
  · have hc := Lib.hid (hm.out ((w.alloc (.cells #[.int .i64 s, .int .i64 a, .int .i64 l] 27)).alloc (.cells #[.int .i64 0, .int .i64 0, .int .i64 0] 27)))
    go_wp2_with (fail)
    refine hc.out.mono ?_
    rintro e w1 ⟨g, rfl, k1, hge, G⟩
    have A := ((Blk.new w 27 #[.int .i64 s, .int .i64 a, .int .i64 l]).alloc (.cells #[.int .i64 0, .int .i64 0, .int .i64 0] 27)).up k1
    have R := (Blk.new' (w.alloc (.cells #[.int .i64 s, .int .i64 a, .int .i64 l] 27)) (g := w.heap.size + 1) (by simp) 27 #[.int .i64 0, .int .i64 0, .int .i64 0]).up k1
    have U := (((Up.refl w).alloc (.cells #[.int .i64 s, .int .i64 a, .int .i64 l] 27)).alloc (.cells #[.int .i64 0, .int .i64 0, .int .i64 0] 27)).trans k1
    have Ac := A.cell
    clear k1 hge hc
    go_wp2_with (fail)
    go_step3
    go_wp2_with (fail)
    refine (ht.out _).mono ?_
    rintro e w2 ⟨rfl, k2⟩
    replace A := A.up k2
    replace R := R.up k2
    replace U := U.trans k2
    replace G := G.up k2
    clear k2 Ac
    have Ac := A.cell
    have Al := A.lt
    have Rc := R.cell
    have Rf := R.frozen
    have Rl := R.lt
    have C := Lib.hid (fun w' (k : Up w2 w') => C0.out g w' (G.up k))
    go_wp2_with (fail)
    refine (C.out _ ((Up.refl w2).alloc _)).mono ?_
    rintro e w3 ⟨rfl, rfl⟩
    go_wp2_with (fail)
    go_step3
    refine ⟨rfl, g, _, _, _, _, _, _, _, _, _, _, _, _, _, _, _, _, _, _, _, _, _, _, _, _, rfl, U.alloc _, A.alloc _, R.alloc _⟩
  · rintro a' wr ⟨g, u8, u9, u10, u11, u12, u13, u14, u15, u16, u17, u18, u19, u20, u21, u22, u23, u24, u25, u26, u27, u28, u29, u30, u31, rfl, U, A, R⟩
    have Ac := A.cell
    go_wp2_with (fail)
    refine (hu.out _).mono ?_
    rintro e w4 ⟨rfl, k2⟩
    replace A := A.up k2
    replace R := R.up k2
    replace U := U.trans k2
    clear k2 Ac
    have Ac := A.cell
    have Al := A.lt
    have Rc := R.cell
    have Rf := R.frozen
    have Rl := R.lt
    go_wp2_with (fail)
    (try simp only [Exit.inBlock, Exit.then])
    (try simp only [Exit.jump])
    refine bodyPost_ret (ret_bump rfl _ _ _ _ _ _ _ _ rfl ((R.set3 _ _ _).alloc _) rfl rfl) rfl ?_
    exact ⟨rfl, (U.set3 (by omega) _ _ _).alloc _⟩

set_option maxHeartbeats 400000 in
theorem most_nil (s a l n : Int) (h : rgt s a l) (h1 : 1 ≤ n) (h2 : l - a < n) (h3 : l - a < 1) (w : World) :
    Calls Tryz.prog 154 #[bv s a l, .int .i64 n] w fun e w' => e = .returned (.tuple #[bv s a l, .int .u64 0, .int .i64 0]) ∧ Up w w' := by
  have hm := Lib.hid (room_any s a l)
  rw [show lft s a l = l - a from if_pos h] at hm
  have C0 : ∀ g w, Blk w g 3 #[.int .i64 (l - a)] → Calls Tryz.prog 170 #[.int .i64 n, .pointer (some ⟨g, 0, none⟩)] w fun e w' => e = .returned (.int .i64 (l - a)) ∧ w = w' := fun g w G => by
    have := can_any n (l - a) g w G
    rwa [if_neg (by omega)] at this
  have C0 := Lib.hid C0
  have ht := Lib.hid (take_full s a l n h h1 h2)
  have hu := Lib.hid (take_arg s a l (l - a) (fun k => by omega))
  clear h h1 h2 h3
  obtain ⟨m, hmm⟩ : ∃ m, l - a = m := ⟨_, rfl⟩
  rw [hmm] at hm C0 hu
  try rw [hmm]
  go_enter Tryz.func154, Tryz.ntmps154
  go_wp2
  refine wp_scope_jumps 0 (AtAgain s a l m w) (fun a' _ => 0) rfl ?_ ?_
  · have hc := Lib.hid (hm.out ((w.alloc (.cells #[.int .i64 s, .int .i64 a, .int .i64 l] 27)).alloc (.cells #[.int .i64 0, .int .i64 0, .int .i64 0] 27)))
    go_wp2_with (fail)
    refine hc.out.mono ?_
    rintro e w1 ⟨g, rfl, k1, hge, G⟩
    have A := ((Blk.new w 27 #[.int .i64 s, .int .i64 a, .int .i64 l]).alloc (.cells #[.int .i64 0, .int .i64 0, .int .i64 0] 27)).up k1
    have R := (Blk.new' (w.alloc (.cells #[.int .i64 s, .int .i64 a, .int .i64 l] 27)) (g := w.heap.size + 1) (by simp) 27 #[.int .i64 0, .int .i64 0, .int .i64 0]).up k1
    have U := (((Up.refl w).alloc (.cells #[.int .i64 s, .int .i64 a, .int .i64 l] 27)).alloc (.cells #[.int .i64 0, .int .i64 0, .int .i64 0] 27)).trans k1
    have Ac := A.cell
    clear k1 hge hc
    go_wp2_with (fail)
    go_step3
    go_wp2_with (fail)
    refine (ht.out _).mono ?_
    rintro e w2 ⟨rfl, k2⟩
    replace A := A.up k2
    replace R := R.up k2
    replace U := U.trans k2
    replace G := G.up k2
    clear k2 Ac
    have Ac := A.cell
    have Al := A.lt
    have Rc := R.cell
    have Rf := R.frozen
    have Rl := R.lt
    have C := Lib.hid (fun w' (k : Up w2 w') => C0.out g w' (G.up k))
    go_wp2_with (fail)
    refine (C.out _ ((Up.refl w2).alloc _)).mono ?_
    rintro e w3 ⟨rfl, rfl⟩
    go_wp2_with (fail)
    go_step3
    refine ⟨rfl, g, _, _, _, _, _, _, _, _, _, _, _, _, _, _, _, _, _, _, _, _, _, _, _, _, rfl, U.alloc _, A.alloc _, R.alloc _⟩
  · rintro a' wr ⟨g, u8, u9, u10, u11, u12, u13, u14, u15, u16, u17, u18, u19, u20, u21, u22, u23, u24, u25, u26, u27, u28, u29, u30, u31, rfl, U, A, R⟩
    have Ac := A.cell
    go_wp2_with (fail)
    refine (hu.out _).mono ?_
    rintro e w4 ⟨rfl, k2⟩
    replace A := A.up k2
    replace R := R.up k2
    replace U := U.trans k2
    clear k2 Ac
    have Ac := A.cell
    have Al := A.lt
    have Rc := R.cell
    have Rf := R.frozen
    have Rl := R.lt
    go_wp2_with (fail)
    (try simp only [Exit.inBlock, Exit.then])
    (try simp only [Exit.jump])
    refine bodyPost_ret (ret_bump rfl _ _ _ _ _ _ _ _ rfl ((R.set3 _ _ _).alloc _) rfl rfl) rfl ?_
    exact ⟨rfl, (U.set3 (by omega) _ _ _).alloc _⟩

end Go.Proofs.YtddoljfkbkbfjaaGreat
/-! Of stage 7 -/
namespace Go.Proofs.YtddoljfkbkbfjaaGreat
open Go.ChangeShapes Go.WideShapes Go.ChangeAt Go.RowKit
set_option linter.unusedVariables false
set_option linter.unusedSimpArgs false

/-- A beginning. -/
def nws (s : Int) : Int := if s = 1 then 1 else 0
def nwl (x : Int) : Int := if 0 < x then x else 0
theorem ret_one {fn : Func} {p : Tmp} (h : fn.results = #[.cell p 27]) (tmps : Array Value) (w : World) (g : Nat) (x y z : Int)
    (hp : tmps.getD p undef = .pointer (some ⟨g, 0, none⟩)) (hg : Blk w g 27 #[.int .i64 x, .int .i64 y, .int .i64 z]) :
    (results fn tmps).run Tryz.prog w = .ok (bv x y z) w := by
  have hp' : tmps[p]?.getD undef = .pointer (some ⟨g, 0, none⟩) := by simpa using hp
  simp [results, h, hp', asAddr, run_loadVar_row w g 27 27 _ _ _ hg Tryz.underlying27 rfl (by kernel_rfl)]
set_option maxHeartbeats 1000000 in
theorem rright (s a l : Int) (w : World) :
    Calls Tryz.prog 28 #[bv s a l] w fun e w' => e = .returned (.bool (rgb s a l)) ∧ Up w w' := by
  by_cases h : rgt s a l
  · rw [show rgb s a l = true from decide_eq_true h]
    obtain ⟨h0, h1, h2, h3⟩ := h
    have e0 : 0 ≤ s := by omega
    have e1 : s ≤ 1 := by omega
    clear h0
    go_enter Tryz.func28, Tryz.ntmps28
    go_wp2
    go_ret
    exact ⟨rfl, (Up.refl _).alloc _⟩
  · rw [show rgb s a l = false from decide_eq_false h]
    unfold rgt at h
    by_cases c0 : s < 0
    · clear h
      go_enter Tryz.func28, Tryz.ntmps28
      go_wp2
      go_ret
      exact ⟨rfl, (Up.refl _).alloc _⟩
    have e0 : 0 ≤ s := by omega
    by_cases c1 : 1 < s
    · clear h c0
      go_enter Tryz.func28, Tryz.ntmps28
      go_wp2
      go_ret
      exact ⟨rfl, (Up.refl _).alloc _⟩
    have e1 : s ≤ 1 := by omega
    by_cases c2 : a < 0
    · clear h c0 c1
      go_enter Tryz.func28, Tryz.ntmps28
      go_wp2
      go_ret
      exact ⟨rfl, (Up.refl _).alloc _⟩
    have e2 : 0 ≤ a := by omega
    by_cases c3 : l < a
    · clear h c0 c1 c2
      go_enter Tryz.func28, Tryz.ntmps28
      go_wp2
      go_ret
      exact ⟨rfl, (Up.refl _).alloc _⟩
    have e3 : a ≤ l := by omega
    have c4 : decide (l ≤ 4096) = false := decide_eq_false (by omega)
    clear h c0 c1 c2 c3
    go_enter Tryz.func28, Tryz.ntmps28
    go_wp2
    go_ret
    exact ⟨rfl, (Up.refl _).alloc _⟩


end Go.Proofs.YtddoljfkbkbfjaaGreat
/-! Of stage 7 -/
namespace Go.Proofs.YtddoljfkbkbfjaaGreat
open Go.Joins Go.ChangeShapes Go.WideShapes Go.ChangeAt Go.RowKit Go.Deep
set_option linter.unusedVariables false
set_option linter.unusedSimpArgs false

/-! ### What is taken at most, told by functions -/
/-- Are all taken? -/
def all_ (s a l n : Int) : Prop := rgt s a l ∧ l - a < n ∧ 1 ≤ l - a
instance decAll_ (s a l n : Int) : Decidable (all_ s a l n) := by unfold all_; infer_instance
def msa (s a l n : Int) : Int := if may s a l n then a + n else if all_ s a l n then a + (l - a) else a
def msw (s a l n : Int) : Int := if may s a l n then adr s a else if all_ s a l n then adr s a else 0
def msk (s a l n : Int) : Int := if may s a l n then n else if all_ s a l n then l - a else 0
theorem most_any (s a l n : Int) (w : World) :
    Calls Tryz.prog 154 #[bv s a l, .int .i64 n] w fun e w' => e = .returned (.tuple #[bv s (msa s a l n) l, .int .u64 (msw s a l n), .int .i64 (msk s a l n)]) ∧ Up w w' := by
  unfold msa msw msk
  by_cases h : may s a l n
  · rw [if_pos h, if_pos h, if_pos h]; exact most_ok s a l n h w
  · rw [if_neg h, if_neg h, if_neg h]
    by_cases k : all_ s a l n
    · rw [if_pos k, if_pos k, if_pos k]; exact most_all s a l n k.1 (by have := k.2; omega) k.2.1 k.2.2 w
    · rw [if_neg k, if_neg k, if_neg k]
      by_cases c : rgt s a l ∧ 1 ≤ n
      · have h2 : l - a < n := by
          rcases Int.lt_or_le (l - a) n with q | q
          · exact q
          · exact absurd ⟨c.1, c.2, q⟩ h
        have h3 : l - a < 1 := by
          rcases Int.lt_or_le (l - a) 1 with q | q
          · exact q
          · exact absurd ⟨c.1, h2, q⟩ k
        exact most_nil s a l n c.1 c.2 h2 h3 w
      · exact most_arg s a l n c w
/-- Are two the same? -/
def bsame (s a l s' a' l' : Int) : Bool := s == s' && (a == a' && l == l')
theorem bsame_self (s a l : Int) : bsame s a l s a l = true := by simp [bsame]
theorem eq_bump (s a l s' a' l' : Int) (w : World) : (binOp .eql 27 (bv s a l) (bv s' a' l')).run Tryz.prog w = .ok (.bool (bsame s a l s' a' l')) w := by
  rw [run_eql_struct, run_equalIn_agg _ _ _ _ _ (by rw [fieldsOf_of Tryz.underlying27]; exact Tryz.underlying27) (by kernel_rfl), fieldsOf_of Tryz.underlying27]
  simp [Op.eqFields, go_sem, bsame]
  by_cases h : s = s' <;> by_cases k : a = a' <;> by_cases j : l = l' <;> simp [h, k, j]
/-- One is the same as itself. -/
theorem eq_self (s a l : Int) (w : World) : (binOp .eql 27 (.agg #[.int .i64 s, .int .i64 a, .int .i64 l]) (.agg #[.int .i64 s, .int .i64 a, .int .i64 l])).run Tryz.prog w = .ok (.bool true) w := by
  rw [show Value.agg #[.int .i64 s, .int .i64 a, .int .i64 l] = bv s a l from rfl, eq_bump, bsame_self]

theorem cells_bump : Tryz.prog.cellsOf 27 = 3 := by kernel_rfl

end Go.Proofs.YtddoljfkbkbfjaaGreat
/-! Of stage 8 -/
namespace Go.Proofs.YtddoljfkbkbfjaaGreat
open Go.ChangeShapes Go.WideShapes Go.ChangeAt Go.RowKit
set_option linter.unusedVariables false
set_option linter.unusedSimpArgs false

/-- A room: how many words, both spaces; where the space goes on; the piece. -/
abbrev rov (n : Int) (A B : Value) (s a l x y : Int) : Value := .agg #[.int .i64 n, A, B, .int .i64 s, .int .i64 a, .int .i64 l, .int .i64 x, .int .i64 y]
abbrev roc (n : Int) (A B : Value) (s a l x y : Int) : Array Value := #[.int .i64 n, A, B, .int .i64 s, .int .i64 a, .int .i64 l, .int .i64 x, .int .i64 y]
/-- A space of memory, as it is handed on. -/
abbrev sl (P : Addr) (n c : Nat) : Value := .slice (some P) n c

theorem ret_room {fn : Func} {p : Tmp} (h : fn.results = #[.cell p 150]) (tmps : Array Value) (w : World) (g : Nat) (n s a l x y : Int) (A B : Value)
    (hp : tmps.getD p undef = .pointer (some ⟨g, 0, none⟩)) (hg : Blk w g 150 (roc n A B s a l x y)) :
    (results fn tmps).run Tryz.prog w = .ok (rov n A B s a l x y) w := by
  have hp' : tmps[p]?.getD undef = .pointer (some ⟨g, 0, none⟩) := by simpa using hp
  simp [results, h, hp', asAddr, run_loadVar_row w g 150 150 _ _ _ hg Tryz.underlying150 rfl (by kernel_rfl)]
theorem ret_room3 {fn : Func} {p u v : Tmp} (h : fn.results = #[.cell p 150, .tmp u, .tmp v]) (tmps : Array Value) (w : World) (g : Nat) (n s a l x y : Int) (A B b e : Value)
    (hp : tmps.getD p undef = .pointer (some ⟨g, 0, none⟩)) (hg : Blk w g 150 (roc n A B s a l x y)) (hb : tmps.getD u undef = b) (he : tmps.getD v undef = e) :
    (results fn tmps).run Tryz.prog w = .ok (.tuple #[rov n A B s a l x y, b, e]) w := by
  have hp' : tmps[p]?.getD undef = .pointer (some ⟨g, 0, none⟩) := by simpa using hp
  have hb' : tmps[u]?.getD undef = b := by simpa using hb
  have he' : tmps[v]?.getD undef = e := by simpa using he
  simp [results, h, hp', hb', he', asAddr, run_loadVar_row w g 150 150 _ _ _ hg Tryz.underlying150 rfl (by kernel_rfl)]

set_option maxHeartbeats 400000 in
theorem gap_any (n s a l x y : Int) (A B : Value) (h0 : 0 ≤ x) (h1 : x ≤ 4096) (h2 : 0 ≤ y) (h3 : y ≤ 4096) (w : World) :
    Calls Tryz.prog 131 #[rov n A B s a l x y] w fun e w' => e = .returned (.int .i64 (y - x)) ∧ Up w w' := by
  go_enter Tryz.func131, Tryz.ntmps131
  go_wp2
  go_ret
  exact ⟨rfl, (Up.refl _).alloc _⟩

/-- Are two pieces the same? -/
def tsame (x y x' y' : Int) : Bool := x == x' && y == y'
theorem tsame_self (x y : Int) : tsame x y x y = true := by simp [tsame]
theorem eq_buf (x y x' y' : Int) (w : World) : (binOp .eql 39 (.agg #[.int .i64 x, .int .i64 y]) (.agg #[.int .i64 x', .int .i64 y'])).run Tryz.prog w = .ok (.bool (tsame x y x' y')) w := by
  rw [run_eql_struct, run_equalIn_agg _ _ _ _ _ (by rw [fieldsOf_of Tryz.underlying39]; exact Tryz.underlying39) (by kernel_rfl), fieldsOf_of Tryz.underlying39]
  simp [Op.eqFields, go_sem, tsame]
  by_cases h : x = x' <;> by_cases k : y = y' <;> simp [h, k]

set_option maxHeartbeats 400000 in
theorem empty_any (x y : Int) (w : World) :
    Calls Tryz.prog 132 #[.agg #[.int .i64 x, .int .i64 y]] w fun e w' => e = .returned (.bool (tsame x y 0 0)) ∧ Up w w' := by
  have he := eq_buf x y 0 0
  go_enter Tryz.func132, Tryz.ntmps132
  go_wp2
  go_ret
  exact ⟨rfl, (Up.refl _).alloc _⟩

theorem Blk.set8 {w : World} {g : Nat} {t : TypeId} {a0 a1 a2 a3 a4 a5 a6 a7 : Value} (h : Blk w g t #[a0, a1, a2, a3, a4, a5, a6, a7]) (u0 u1 u2 u3 u4 u5 u6 u7 : Value) :
    Blk ((((((((w.setCell ⟨g, 0, none⟩ u0).setCell ⟨g, 1, none⟩ u1).setCell ⟨g, 2, none⟩ u2).setCell ⟨g, 3, none⟩ u3).setCell ⟨g, 4, none⟩ u4).setCell ⟨g, 5, none⟩ u5).setCell ⟨g, 6, none⟩ u6).setCell ⟨g, 7, none⟩ u7) g t #[u0, u1, u2, u3, u4, u5, u6, u7] := by
  have h1 : Blk (w.setCell ⟨g, 0, none⟩ u0) g t #[u0, a1, a2, a3, a4, a5, a6, a7] := h.set_ 0 u0
  have h2 : Blk ((w.setCell ⟨g, 0, none⟩ u0).setCell ⟨g, 1, none⟩ u1) g t #[u0, u1, a2, a3, a4, a5, a6, a7] := h1.set_ 1 u1
  have h3 : Blk (((w.setCell ⟨g, 0, none⟩ u0).setCell ⟨g, 1, none⟩ u1).setCell ⟨g, 2, none⟩ u2) g t #[u0, u1, u2, a3, a4, a5, a6, a7] := h2.set_ 2 u2
  have h4 : Blk ((((w.setCell ⟨g, 0, none⟩ u0).setCell ⟨g, 1, none⟩ u1).setCell ⟨g, 2, none⟩ u2).setCell ⟨g, 3, none⟩ u3) g t #[u0, u1, u2, u3, a4, a5, a6, a7] := h3.set_ 3 u3
  have h5 : Blk (((((w.setCell ⟨g, 0, none⟩ u0).setCell ⟨g, 1, none⟩ u1).setCell ⟨g, 2, none⟩ u2).setCell ⟨g, 3, none⟩ u3).setCell ⟨g, 4, none⟩ u4) g t #[u0, u1, u2, u3, u4, a5, a6, a7] := h4.set_ 4 u4
  have h6 : Blk ((((((w.setCell ⟨g, 0, none⟩ u0).setCell ⟨g, 1, none⟩ u1).setCell ⟨g, 2, none⟩ u2).setCell ⟨g, 3, none⟩ u3).setCell ⟨g, 4, none⟩ u4).setCell ⟨g, 5, none⟩ u5) g t #[u0, u1, u2, u3, u4, u5, a6, a7] := h5.set_ 5 u5
  have h7 : Blk (((((((w.setCell ⟨g, 0, none⟩ u0).setCell ⟨g, 1, none⟩ u1).setCell ⟨g, 2, none⟩ u2).setCell ⟨g, 3, none⟩ u3).setCell ⟨g, 4, none⟩ u4).setCell ⟨g, 5, none⟩ u5).setCell ⟨g, 6, none⟩ u6) g t #[u0, u1, u2, u3, u4, u5, u6, a7] := h6.set_ 6 u6
  have h8 : Blk ((((((((w.setCell ⟨g, 0, none⟩ u0).setCell ⟨g, 1, none⟩ u1).setCell ⟨g, 2, none⟩ u2).setCell ⟨g, 3, none⟩ u3).setCell ⟨g, 4, none⟩ u4).setCell ⟨g, 5, none⟩ u5).setCell ⟨g, 6, none⟩ u6).setCell ⟨g, 7, none⟩ u7) g t #[u0, u1, u2, u3, u4, u5, u6, u7] := h7.set_ 7 u7
  exact h8
theorem Up.set8 {a b : World} (h : Up a b) {g : Nat} (hg : a.heap.size ≤ g) (u0 u1 u2 u3 u4 u5 u6 u7 : Value) : Up a ((((((((b.setCell ⟨g, 0, none⟩ u0).setCell ⟨g, 1, none⟩ u1).setCell ⟨g, 2, none⟩ u2).setCell ⟨g, 3, none⟩ u3).setCell ⟨g, 4, none⟩ u4).setCell ⟨g, 5, none⟩ u5).setCell ⟨g, 6, none⟩ u6).setCell ⟨g, 7, none⟩ u7) :=
  (((((((h.setCell hg u0).setCell hg u1).setCell hg u2).setCell hg u3).setCell hg u4).setCell hg u5).setCell hg u6).setCell hg u7
theorem Sits.far8 {w : World} {m : Me} {p q : Addr} {c d g : Nat} {t : TypeId} {a0 a1 a2 a3 a4 a5 a6 a7 : Value} (h : Sits w m p q c d) (h0 : Blk w g t #[a0, a1, a2, a3, a4, a5, a6, a7]) (u0 u1 u2 u3 u4 u5 u6 u7 : Value) :
    Sits ((((((((w.setCell ⟨g, 0, none⟩ u0).setCell ⟨g, 1, none⟩ u1).setCell ⟨g, 2, none⟩ u2).setCell ⟨g, 3, none⟩ u3).setCell ⟨g, 4, none⟩ u4).setCell ⟨g, 5, none⟩ u5).setCell ⟨g, 6, none⟩ u6).setCell ⟨g, 7, none⟩ u7) m p q c d := by
  have h1 : Blk (w.setCell ⟨g, 0, none⟩ u0) g t #[u0, a1, a2, a3, a4, a5, a6, a7] := h0.set_ 0 u0
  have s1 : Sits (w.setCell ⟨g, 0, none⟩ u0) m p q c d := h.far h0 (by simp) u0
  have h2 : Blk ((w.setCell ⟨g, 0, none⟩ u0).setCell ⟨g, 1, none⟩ u1) g t #[u0, u1, a2, a3, a4, a5, a6, a7] := h1.set_ 1 u1
  have s2 : Sits ((w.setCell ⟨g, 0, none⟩ u0).setCell ⟨g, 1, none⟩ u1) m p q c d := s1.far h1 (by simp) u1
  have h3 : Blk (((w.setCell ⟨g, 0, none⟩ u0).setCell ⟨g, 1, none⟩ u1).setCell ⟨g, 2, none⟩ u2) g t #[u0, u1, u2, a3, a4, a5, a6, a7] := h2.set_ 2 u2
  have s3 : Sits (((w.setCell ⟨g, 0, none⟩ u0).setCell ⟨g, 1, none⟩ u1).setCell ⟨g, 2, none⟩ u2) m p q c d := s2.far h2 (by simp) u2
  have h4 : Blk ((((w.setCell ⟨g, 0, none⟩ u0).setCell ⟨g, 1, none⟩ u1).setCell ⟨g, 2, none⟩ u2).setCell ⟨g, 3, none⟩ u3) g t #[u0, u1, u2, u3, a4, a5, a6, a7] := h3.set_ 3 u3
  have s4 : Sits ((((w.setCell ⟨g, 0, none⟩ u0).setCell ⟨g, 1, none⟩ u1).setCell ⟨g, 2, none⟩ u2).setCell ⟨g, 3, none⟩ u3) m p q c d := s3.far h3 (by simp) u3
  have h5 : Blk (((((w.setCell ⟨g, 0, none⟩ u0).setCell ⟨g, 1, none⟩ u1).setCell ⟨g, 2, none⟩ u2).setCell ⟨g, 3, none⟩ u3).setCell ⟨g, 4, none⟩ u4) g t #[u0, u1, u2, u3, u4, a5, a6, a7] := h4.set_ 4 u4
  have s5 : Sits (((((w.setCell ⟨g, 0, none⟩ u0).setCell ⟨g, 1, none⟩ u1).setCell ⟨g, 2, none⟩ u2).setCell ⟨g, 3, none⟩ u3).setCell ⟨g, 4, none⟩ u4) m p q c d := s4.far h4 (by simp) u4
  have h6 : Blk ((((((w.setCell ⟨g, 0, none⟩ u0).setCell ⟨g, 1, none⟩ u1).setCell ⟨g, 2, none⟩ u2).setCell ⟨g, 3, none⟩ u3).setCell ⟨g, 4, none⟩ u4).setCell ⟨g, 5, none⟩ u5) g t #[u0, u1, u2, u3, u4, u5, a6, a7] := h5.set_ 5 u5
  have s6 : Sits ((((((w.setCell ⟨g, 0, none⟩ u0).setCell ⟨g, 1, none⟩ u1).setCell ⟨g, 2, none⟩ u2).setCell ⟨g, 3, none⟩ u3).setCell ⟨g, 4, none⟩ u4).setCell ⟨g, 5, none⟩ u5) m p q c d := s5.far h5 (by simp) u5
  have h7 : Blk (((((((w.setCell ⟨g, 0, none⟩ u0).setCell ⟨g, 1, none⟩ u1).setCell ⟨g, 2, none⟩ u2).setCell ⟨g, 3, none⟩ u3).setCell ⟨g, 4, none⟩ u4).setCell ⟨g, 5, none⟩ u5).setCell ⟨g, 6, none⟩ u6) g t #[u0, u1, u2, u3, u4, u5, u6, a7] := h6.set_ 6 u6
  have s7 : Sits (((((((w.setCell ⟨g, 0, none⟩ u0).setCell ⟨g, 1, none⟩ u1).setCell ⟨g, 2, none⟩ u2).setCell ⟨g, 3, none⟩ u3).setCell ⟨g, 4, none⟩ u4).setCell ⟨g, 5, none⟩ u5).setCell ⟨g, 6, none⟩ u6) m p q c d := s6.far h6 (by simp) u6
  have h8 : Blk ((((((((w.setCell ⟨g, 0, none⟩ u0).setCell ⟨g, 1, none⟩ u1).setCell ⟨g, 2, none⟩ u2).setCell ⟨g, 3, none⟩ u3).setCell ⟨g, 4, none⟩ u4).setCell ⟨g, 5, none⟩ u5).setCell ⟨g, 6, none⟩ u6).setCell ⟨g, 7, none⟩ u7) g t #[u0, u1, u2, u3, u4, u5, u6, u7] := h7.set_ 7 u7
  have s8 : Sits ((((((((w.setCell ⟨g, 0, none⟩ u0).setCell ⟨g, 1, none⟩ u1).setCell ⟨g, 2, none⟩ u2).setCell ⟨g, 3, none⟩ u3).setCell ⟨g, 4, none⟩ u4).setCell ⟨g, 5, none⟩ u5).setCell ⟨g, 6, none⟩ u6).setCell ⟨g, 7, none⟩ u7) m p q c d := s7.far h7 (by simp) u7
  exact s8

/-- A room is handed back; and two things more. -/
def GivesR (w : World) (m : Me) (s a l x y : Int) (e : Ending) (w' : World) : Prop := ∃ P Q c d, e = .returned (rov m.n (sl P m.n c) (sl Q m.n d) s a l x y) ∧ Sits w' m P Q c d ∧ Up w w'
def GivesR2 (w : World) (m : Me) (s a l x y b z : Int) (e : Ending) (w' : World) : Prop := ∃ P Q c d, e = .returned (.tuple #[rov m.n (sl P m.n c) (sl Q m.n d) s a l x y, .int .u64 b, .int .i64 z]) ∧ Sits w' m P Q c d ∧ Up w w'

set_option maxHeartbeats 1000000 in
/-- Nothing is left of the piece. -/
theorem retire_none (n s a l x : Int) (A0 A1 : Option Addr) (n0 n1 c0 c1 : Nat) (h0 : 0 ≤ x) (h1 : x ≤ 4096) (w : World) :
    Calls Tryz.prog 133 #[rov n (.slice A0 n0 c0) (.slice A1 n1 c1) s a l x x] w fun e w' => e = .returned (rov n (.slice A0 n0 c0) (.slice A1 n1 c1) s a l 0 0) ∧ Up w w' := by
  have hg := fun w => gap_any n s a l x x (.slice A0 n0 c0) (.slice A1 n1 c1) h0 h1 h0 h1 w
  rw [Int.sub_self] at hg
  have hg := Lib.hid hg
  go_enter Tryz.func133, Tryz.ntmps133
  go_wp2_with (fail)
  refine (hg.out _).mono ?_
  rintro e w1 ⟨rfl, k1⟩
  have X := ((Blk.new w 150 (roc n (.slice A0 n0 c0) (.slice A1 n1 c1) s a l x x)).alloc (.cells (roc 0 (.slice none 0 0) (.slice none 0 0) 0 0 0 0 0) 150)).up k1
  have R := (Blk.new' (w.alloc (.cells (roc n (.slice A0 n0 c0) (.slice A1 n1 c1) s a l x x) 150)) (g := w.heap.size + 1) (by simp) 150 (roc 0 (.slice none 0 0) (.slice none 0 0) 0 0 0 0 0)).up k1
  have U := (((Up.refl w).alloc (.cells (roc n (.slice A0 n0 c0) (.slice A1 n1 c1) s a l x x) 150)).alloc (.cells (roc 0 (.slice none 0 0) (.slice none 0 0) 0 0 0 0 0) 150)).trans k1
  clear k1
  have Xc := X.cell
  have Xf := X.frozen
  have Xl := X.lt
  have Rc := R.cell
  have Rf := R.frozen
  have Rl := R.lt
  go_wp2

  refine bodyPost_ret (ret_room rfl _ _ _ _ _ _ _ _ _ _ _ rfl (((R.far (by simp) _).far (by simp) _).set8 _ _ _ _ _ _ _ _)) rfl ?_
  exact ⟨rfl, ((U.setCell (by simp) _).setCell (by simp) _).set8 (by omega) _ _ _ _ _ _ _ _⟩

end Go.Proofs.YtddoljfkbkbfjaaGreat
/-! Of stage 8 -/
namespace Go.Proofs.YtddoljfkbkbfjaaGreat
open Go.ChangeShapes Go.WideShapes Go.ChangeAt Go.RowKit
set_option linter.unusedVariables false
set_option linter.unusedSimpArgs false

set_option maxRecDepth 100000 in
set_option maxHeartbeats 2000000 in
/-- Something is left of the piece. -/
theorem retire_fill (m : Me) (P Q : Addr) (c d : Nat) (s a l x y : Int) (w : World) (hm : Sits w m P Q c d) (hs : s = 0 ∨ s = 1) (h0 : 0 ≤ x) (h1 : x < y) (h2 : y ≤ 4096) :
    Calls Tryz.prog 133 #[rov m.n (.slice (some P) m.n c) (.slice (some Q) m.n d) s a l x y] w (GivesR w (m.fillm (adr s x) (y - x)) s a l 0 0) := by
  have hg := Lib.hid (fun w => gap_any m.n s a l x y (.slice (some P) m.n c) (.slice (some Q) m.n d) h0 (by omega) (by omega) h2 w)
  have ha := Lib.hid (fun w => baddr_ok s x ⟨hs, h0, by omega⟩ w)
  have hA : U64 (adr s x) := by unfold U64 adr; omega
  have hf := fun (W : World) (h : Up w W) => fill_any m (adr s x) (y - x) P Q c d W (hm.up h) hA
  have hn : (m.fillm (adr s x) (y - x)).n = m.n := by
    unfold Me.fillm
    split
    · exact put_n m _ _ _ _
    · rfl
  have hne : (y - x != 0) = true := bne_iff_ne.mpr (by omega)
  generalize m.fillm (adr s x) (y - x) = K at hf hn ⊢
  generalize m.fille (adr s x) (y - x) = z at hf
  generalize adr s x = u at ha hf
  have hf := Lib.hid hf
  have hn := Lib.hid hn
  clear hm hA hs h0 h1 h2
  generalize y - x = q at hg hf hne
  go_enter Tryz.func133, Tryz.ntmps133
  go_wp2_with (fail)
  refine (hg.out _).mono ?_
  rintro e w1 ⟨rfl, k1⟩
  have X := ((Blk.new w 150 (roc m.n (.slice (some P) m.n c) (.slice (some Q) m.n d) s a l x y)).alloc (.cells (roc 0 (.slice none 0 0) (.slice none 0 0) 0 0 0 0 0) 150)).up k1
  have R := (Blk.new' (w.alloc (.cells (roc m.n (.slice (some P) m.n c) (.slice (some Q) m.n d) s a l x y) 150)) (g := w.heap.size + 1) (by simp) 150 (roc 0 (.slice none 0 0) (.slice none 0 0) 0 0 0 0 0)).up k1
  have U := (((Up.refl w).alloc (.cells (roc m.n (.slice (some P) m.n c) (.slice (some Q) m.n d) s a l x y) 150)).alloc (.cells (roc 0 (.slice none 0 0) (.slice none 0 0) 0 0 0 0 0) 150)).trans k1
  clear k1
  have Xc := X.cell
  have Xf := X.frozen
  have Xl := X.lt
  go_wp2_with (fail)
  have X0 := X.drew
  have R0 := R.drew
  have U0 := U.drew
  have V0 := Up.refl w1.drew
  clear Xc Xf Xl U X R
  have X0c := X0.cell
  have X0f := X0.frozen
  have X0l := X0.lt
  go_region_with (first
    | (go_at_call 153; refine (ha.out _).mono ?_; rintro e wz ⟨rfl, rfl⟩)
    | (go_at_call 152; refine (hf.out _ U0).mono ?_; rintro e wz ⟨P', Q', c', d', rfl, sz, hz⟩; have UZ := U0.trans hz; have XZ := X0.up hz; have RZ := R0.up hz; have XZc := XZ.cell; have XZf := XZ.frozen; have XZl := XZ.lt))
  all_goals
    have RZc := RZ.cell
    have RZf := RZ.frozen
    have RZl := RZ.lt
    go_wp2
    refine bodyPost_ret (ret_room rfl _ _ _ _ _ _ _ _ _ _ _ rfl ((((((RZ.far (by simp) _).far (by simp) _).far (by simp) _).far (by simp) _).far (by simp) _).set8 _ _ _ _ _ _ _ _)) rfl ?_
    refine ⟨P', Q', c', d', by rw [hn.out], sz.kp (S := [w.heap.size, w.heap.size + 1]) ?_ (Tiny.two XZ RZ (by simp) (by simp)), UZ.kp (S := [w.heap.size, w.heap.size + 1]) ?_ (by simp)⟩
    all_goals
      (repeat (first | with_reducible refine Kp.set_ ?_ (by simp) _ | exact Kp.refl _ _))

set_option maxRecDepth 100000 in
set_option maxHeartbeats 1000000 in
/-- A new piece: so many words, or all that are left. -/
theorem renewed_any (n s a l x y k : Int) (A0 A1 : Option Addr) (n0 n1 c0 c1 : Nat) (h : rgt s a l) (w : World) :
    Calls Tryz.prog 134 #[rov n (.slice A0 n0 c0) (.slice A1 n1 c1) s a l x y, .int .i64 k] w
      fun e w' => e = .returned (rov n (.slice A0 n0 c0) (.slice A1 n1 c1) s (msa s a l k) l a (a + msk s a l k)) ∧ Up w w' := by
  have hm := Lib.hid (most_any s a l k)
  have b0 : 0 ≤ msk s a l k ∧ msk s a l k ≤ 4096 := by
    obtain ⟨_, h1, h2, h3⟩ := h
    unfold msk
    split
    · rename_i q
      have := q.2
      omega
    · split <;> omega
  obtain ⟨_, h1, h2, h3⟩ := h
  generalize msk s a l k = z at hm b0 ⊢
  generalize msa s a l k = a' at hm ⊢
  generalize msw s a l k = u at hm
  have b1 := b0.1
  have b2 := b0.2
  have b3 : a ≤ 4096 := by omega
  clear b0 h2 h3
  go_enter Tryz.func134, Tryz.ntmps134
  go_wp2_with (fail)
  refine (hm.out _).mono ?_
  rintro e w1 ⟨rfl, k1⟩
  have X := ((Blk.new w 150 (roc n (.slice A0 n0 c0) (.slice A1 n1 c1) s a l x y)).alloc (.cells (roc 0 (.slice none 0 0) (.slice none 0 0) 0 0 0 0 0) 150)).up k1
  have R := (Blk.new' (w.alloc (.cells (roc n (.slice A0 n0 c0) (.slice A1 n1 c1) s a l x y) 150)) (g := w.heap.size + 1) (by simp) 150 (roc 0 (.slice none 0 0) (.slice none 0 0) 0 0 0 0 0)).up k1
  have U := (((Up.refl w).alloc (.cells (roc n (.slice A0 n0 c0) (.slice A1 n1 c1) s a l x y) 150)).alloc (.cells (roc 0 (.slice none 0 0) (.slice none 0 0) 0 0 0 0 0) 150)).trans k1
  clear k1
  have Xc := X.cell
  have Xf := X.frozen
  have Xl := X.lt
  have Rc := R.cell
  have Rf := R.frozen
  have Rl := R.lt
  go_wp2
  refine bodyPost_ret (ret_room rfl _ _ _ _ _ _ _ _ _ _ _ rfl (((((((R.far (by simp) _).far (by simp) _).far (by simp) _).far (by simp) _).far (by simp) _).set8 _ _ _ _ _ _ _ _).alloc _)) rfl ?_
  exact ⟨rfl, ((((((U.setCell (by simp) _).setCell (by simp) _).setCell (by simp) _).setCell (by simp) _).setCell (by simp) _).set8 (by omega) _ _ _ _ _ _ _ _).alloc _⟩

end Go.Proofs.YtddoljfkbkbfjaaGreat
/-! Of stage 8 -/
namespace Go.Proofs.YtddoljfkbkbfjaaGreat
open Go.ChangeShapes Go.WideShapes Go.ChangeAt Go.RowKit
set_option linter.unusedVariables false
set_option linter.unusedSimpArgs false

theorem maker_any (t l mp : Int) (w : World) :
    Calls Tryz.prog 130 #[hdv t l mp] w fun e w' => e = .returned (.func (.func 149) #[] #[.pointer (some ⟨w.heap.size, 0, none⟩)]) ∧ Up w w' ∧ Blk w' w.heap.size 60 (hcs t l mp) := by
  have hmf : ∀ (fn : Fn) (first cap : Array Value) (w : World), (Instr.makeFunc fn first cap).run Tryz.prog w = .ok (.func fn first cap) w := fun _ _ _ _ => rfl
  go_enter Tryz.func130, Tryz.ntmps130
  go_wp2
  go_ret
  exact ⟨rfl, (Up.refl _).alloc _, Blk.new _ _ _⟩

/-- What the closure leaves. -/
def MadePost (w : World) (m : Me) (at_ adr_ z : Int) (e : Ending) (w' : World) : Prop :=
  ∃ P Q c d, e = .returned (.tuple #[.agg #[.int .i64 m.n, .slice (some P) m.n c, .slice (some Q) m.n d], .int .i64 at_, .int .u64 adr_, .int .i64 z]) ∧ Sits w' m P Q c d ∧ Up w w'

theorem Up.le {a b : World} (h : Up a b) : a.heap.size ≤ b.heap.size := h.size
/-- A world under a name, of which only what is asked for is known. -/
theorem gen_exit {R : Exit → Act → World → Prop} {Y : World → Prop} {e : Exit} {a : Act} {X : World} (y : Y X) (h : ∀ W, Y W → R e a W) : R e a X := h X y
theorem ret_mem4 {fn : Func} {p u v x : Tmp} (h : fn.results = #[.cell p 25, .tmp u, .tmp v, .tmp x]) (tmps : Array Value) (w : World) (g : Nat) (c0 c1 c2 b e f : Value)
    (hp : tmps.getD p undef = .pointer (some ⟨g, 0, none⟩)) (hg : Blk w g 25 #[c0, c1, c2]) (hb : tmps.getD u undef = b) (he : tmps.getD v undef = e) (hf : tmps.getD x undef = f) :
    (results fn tmps).run Tryz.prog w = .ok (.tuple #[.agg #[c0, c1, c2], b, e, f]) w := by
  have hp' : tmps[p]?.getD undef = .pointer (some ⟨g, 0, none⟩) := by simpa using hp
  have hb' : tmps[u]?.getD undef = b := by simpa using hb
  have he' : tmps[v]?.getD undef = e := by simpa using he
  have hf' : tmps[x]?.getD undef = f := by simpa using hf
  simp [results, h, hp', hb', he', hf', asAddr, run_loadVar_row w g 25 25 _ _ _ hg Tryz.underlying25 rfl (by kernel_rfl)]
theorem three8 {w V : World} {c0 c1 c2 : Array Value} {t0 t1 t2 : TypeId} (h : V = ((w.alloc (.cells c0 t0)).alloc (.cells c1 t1)).alloc (.cells c2 t2)) : Up w V ∧ Blk V w.heap.size t0 c0 ∧ Blk V (w.heap.size + 1) t1 c1 ∧ Blk V (w.heap.size + 1 + 1) t2 c2 := by
  subst h
  exact ⟨(((Up.refl w).alloc _).alloc _).alloc _, ((Blk.new' w rfl _ _).alloc _).alloc _, (Blk.new' _ (by simp) _ _).alloc _, Blk.new' _ (by simp) _ _⟩

set_option maxRecDepth 100000 in
set_option maxHeartbeats 2000000 in
/-- The words are there: the head is put. -/
theorem made_ok (m : Me) (P Q : Addr) (c d : Nat) (s a l t k mp : Int) (g : Nat) (w : World) (hm : Sits w m P Q c d) (hmp : 0 ≤ mp) (hh : rte t k mp = 0) (hr : rgt s a l) (hl : l ≤ m.n) (hn : wdn t k ≤ l - a) (hH : Blk w g 60 (hcs t k mp)) :
    Calls Tryz.prog 149 #[.agg #[.int .i64 m.n, .slice (some P) m.n c, .slice (some Q) m.n d], bv s a l, .pointer (some ⟨g, 0, none⟩)] w (MadePost w (m.putm (adr s a) t k mp) (a + wdn t k) (adr s a) 0) := by
  have hw1 := (wdn_small hmp hh).1
  have hwd := Lib.hid (fun w => words_any t k mp hmp hh w)
  have ht := Lib.hid (fun w => btake_ok s a l (wdn t k) ⟨hr, hw1, hn⟩ w)
  obtain ⟨r0, r1, r2, r3⟩ := hr
  have hA : U64 (adr s a) := by unfold U64 adr; omega
  have hz : m.pute (adr s a) t k mp = 0 := by
    refine pute_0.2 ⟨hh, ?_, ?_⟩
    · unfold whb adr
      exact decide_eq_true (by omega)
    · have : whp (adr s a) = a := by unfold whp adr; rw [if_pos (by omega)]; omega
      omega
  have hp := fun (W : World) (h : Up w W) => put_any m (adr s a) t k mp P Q c d W (hm.up h) hA hmp
  rw [hz] at hp
  have hK := put_n m (adr s a) t k mp
  generalize m.putm (adr s a) t k mp = K at hp hK ⊢
  have hp := Lib.hid hp
  have hK := Lib.hid hK
  have b1 : a + wdn t k ≤ 4096 := by omega
  have b0 : 0 ≤ a + wdn t k := by omega
  clear hA hz hm hh hmp hn
  generalize adr s a = u at ht hp ⊢
  generalize a + wdn t k = a' at ht b1 b0 ⊢
  generalize wdn t k = n at ht hwd hw1
  clear r0 r1 r2 r3 hl hw1
  go_enter Tryz.func149, Tryz.ntmps149
  go_wp2_with (fail)
  obtain ⟨V, hV⟩ : ∃ V, V = ((w.alloc (.cells #[.int .i64 m.n, .slice (some P) m.n c, .slice (some Q) m.n d] 25)).alloc (.cells #[.int .i64 s, .int .i64 a, .int .i64 l] 27)).alloc (.cells #[.int .i64 0, .slice none 0 0, .slice none 0 0] 25) := ⟨_, rfl⟩
  rw [← hV]
  have H0 : Blk V g 60 (hcs t k mp) := by rw [hV]; exact ((hH.alloc _).alloc _).alloc _
  have hg := hH.lt
  obtain ⟨U0, M0, B0, R0⟩ := three8 hV
  clear hV hH
  have V0 := (Up.refl V).drew
  go_region_held3 (fun w' => (∀ i, w'.cell? ⟨w.heap.size + 1, i, none⟩ = (#[.int .i64 s, .int .i64 a, .int .i64 l] : Array Value)[i]?) ∧ (∀ i, w'.cell? ⟨g, i, none⟩ = (hcs t k mp)[i]?))
    (first
      | with_reducible exact ⟨fun i => (Blk.up B0 (by assumption)).cell i, fun i => (Blk.up H0 (by assumption)).cell i⟩
      | with_reducible exact ⟨fun i => (Blk.up B0 (Up.drew (Up.alloc (Up.refl V) _))).cell i, fun i => (Blk.up H0 (Up.drew (Up.alloc (Up.refl V) _))).cell i⟩
      | with_reducible exact ⟨fun i => (Blk.up B0 (Up.alloc (by assumption) _)).cell i, fun i => (Blk.up H0 (Up.alloc (by assumption) _)).cell i⟩
      | with_reducible exact ⟨fun i => (Blk.up B0 (Up.set3 (by assumption) (by first | with_reducible exact Nat.le_refl _ | with_reducible exact Up.le (by assumption)) _ _ _)).cell i, fun i => (Blk.up H0 (Up.set3 (by assumption) (by first | with_reducible exact Nat.le_refl _ | with_reducible exact Up.le (by assumption)) _ _ _)).cell i⟩)
    (first
      | (go_at_call 129; ((with_reducible refine (hwd.out V.drew).mono ?_); rintro e wa ⟨rfl, ha⟩; have UA := Up.trans V0 ha))
      | (go_at_call 129; ((with_reducible refine (hwd.out (World.drew (V.alloc _))).mono ?_); rintro e wa ⟨rfl, ha⟩; have UA := Up.trans (Up.drew (Up.alloc (Up.refl V) _)) ha; have NA := Blk.up (Blk.drew (Blk.new V 27 #[.int .i64 0, .int .i64 0, .int .i64 0])) ha; have NAc := NA.cell; have NAf := NA.frozen; have NAl := NA.lt))
      | (go_at_call 150; ((with_reducible refine (ht.out wa).mono ?_); rintro e wz ⟨rfl, hz⟩; have UZ := Up.trans UA hz; (try have NZ := Blk.up NA hz; have NZc := NZ.cell; have NZf := NZ.frozen; have NZl := NZ.lt)))
      | (go_at_call 150; ((with_reducible refine (ht.out (wa.alloc _)).mono ?_); rintro e wz ⟨rfl, hz⟩; have UZ := Up.trans (UA.alloc _) hz; have NZ := Blk.up (Blk.new wa 27 #[.int .i64 0, .int .i64 0, .int .i64 0]) hz; have NZc := NZ.cell; have NZf := NZ.frozen; have NZl := NZ.lt)))
  all_goals
    rename_i hHeld
    clear hwd ht hHeld
    first
      | (refine gen_exit (Y := fun W1 => Up V W1 ∧ Blk W1 wz.heap.size 27 #[.int .i64 s, .int .i64 a', .int .i64 l] ∧ w.heap.size + 1 + 1 < wz.heap.size) ⟨UZ.alloc _, Blk.new _ _ _, Nat.lt_of_lt_of_le R0.lt UZ.le⟩ ?_)
      | (refine gen_exit (Y := fun W1 => Up V W1 ∧ Blk W1 wa.heap.size 27 #[.int .i64 s, .int .i64 a', .int .i64 l] ∧ w.heap.size + 1 + 1 < wa.heap.size) ⟨UZ.set3 UA.le _ _ _, NZ.set3 _ _ _, Nat.lt_of_lt_of_le R0.lt UA.le⟩ ?_)
      | (refine gen_exit (Y := fun W1 => Up V W1 ∧ Blk W1 V.heap.size 27 #[.int .i64 s, .int .i64 a', .int .i64 l] ∧ w.heap.size + 1 + 1 < V.heap.size) ⟨UZ.set3 (Nat.le_refl _) _ _ _, NZ.set3 _ _ _, R0.lt⟩ ?_)
    rintro W1 ⟨Y, N1, hN⟩
    have M1 := M0.up Y
    have B1 := B0.up Y
    have R1 := R0.up Y
    have H1 := H0.up Y
    have U1 := U0.trans Y
    clear Y M0 B0 R0 H0 U0
    have M1c := M1.cell
    have H1c := H1.cell
    go_wp2_with (fail)
    refine (hp.out W1 U1).mono ?_
    rintro e w2 ⟨P', Q', c', d', rfl, sz, k2⟩
    have R2 := R1.up k2
    have N2 := N1.up k2
    have U2 := U1.trans k2
    clear k2 M1c H1c M1 H1 B1 R1 N1 U1
    have R2c := R2.cell
    have R2f := R2.frozen
    have R2l := R2.lt
    have N2c := N2.cell
    have N2l := N2.lt
    go_wp2_with (fail)
    go_region
    go_wp2
    (try simp only [Exit.inBlock, Exit.then])
    refine bodyPost_ret (ret_mem4 rfl _ _ _ _ _ _ _ _ _ rfl (((R2.set3 _ _ _).alloc _).drew) rfl rfl rfl) rfl ?_
    exact ⟨P', Q', c', d', by rw [hK.out]; rfl, ((((sz.far3 R2 _ _ _).up ((Up.refl _).alloc _)).up (Up.refl _).drew)), ((U2.set3 (by omega) _ _ _).alloc _).drew⟩

set_option maxRecDepth 100000 in
set_option maxHeartbeats 2000000 in
/-- The words aren't there. -/
theorem made_full (m : Me) (P Q : Addr) (c d : Nat) (s a l t k mp : Int) (g : Nat) (w : World) (hm : Sits w m P Q c d) (hmp : 0 ≤ mp) (hh : rte t k mp = 0) (hr : rgt s a l) (hn : l - a < wdn t k) (hH : Blk w g 60 (hcs t k mp)) :
    Calls Tryz.prog 149 #[.agg #[.int .i64 m.n, .slice (some P) m.n c, .slice (some Q) m.n d], bv s a l, .pointer (some ⟨g, 0, none⟩)] w (MadePost w m a 0 4) := by
  have hw1 := (wdn_small hmp hh).1
  have hwd := Lib.hid (fun w => words_any t k mp hmp hh w)
  have ht := Lib.hid (fun w => take_full s a l (wdn t k) hr hw1 hn w)
  have HM := Lib.hid hm
  clear hm hh hmp hn
  generalize wdn t k = n at ht hwd hw1
  clear hr hw1
  go_enter Tryz.func149, Tryz.ntmps149
  go_wp2_with (fail)
  obtain ⟨V, hV⟩ : ∃ V, V = ((w.alloc (.cells #[.int .i64 m.n, .slice (some P) m.n c, .slice (some Q) m.n d] 25)).alloc (.cells #[.int .i64 s, .int .i64 a, .int .i64 l] 27)).alloc (.cells #[.int .i64 0, .slice none 0 0, .slice none 0 0] 25) := ⟨_, rfl⟩
  rw [← hV]
  have H0 : Blk V g 60 (hcs t k mp) := by rw [hV]; exact ((hH.alloc _).alloc _).alloc _
  have hg := hH.lt
  obtain ⟨U0, M0, B0, R0⟩ := three8 hV
  clear hV hH
  have V0 := (Up.refl V).drew
  go_region_held3 (fun w' => (∀ i, w'.cell? ⟨w.heap.size + 1, i, none⟩ = (#[.int .i64 s, .int .i64 a, .int .i64 l] : Array Value)[i]?) ∧ (∀ i, w'.cell? ⟨g, i, none⟩ = (hcs t k mp)[i]?))
    (first
      | with_reducible exact ⟨fun i => (Blk.up B0 (by assumption)).cell i, fun i => (Blk.up H0 (by assumption)).cell i⟩
      | with_reducible exact ⟨fun i => (Blk.up B0 (Up.drew (Up.alloc (Up.refl V) _))).cell i, fun i => (Blk.up H0 (Up.drew (Up.alloc (Up.refl V) _))).cell i⟩
      | with_reducible exact ⟨fun i => (Blk.up B0 (Up.alloc (by assumption) _)).cell i, fun i => (Blk.up H0 (Up.alloc (by assumption) _)).cell i⟩
      | with_reducible exact ⟨fun i => (Blk.up B0 (Up.set3 (by assumption) (by first | with_reducible exact Nat.le_refl _ | with_reducible exact Up.le (by assumption)) _ _ _)).cell i, fun i => (Blk.up H0 (Up.set3 (by assumption) (by first | with_reducible exact Nat.le_refl _ | with_reducible exact Up.le (by assumption)) _ _ _)).cell i⟩)
    (first
      | (go_at_call 129; ((with_reducible refine (hwd.out V.drew).mono ?_); rintro e wa ⟨rfl, ha⟩; have UA := Up.trans V0 ha))
      | (go_at_call 129; ((with_reducible refine (hwd.out (World.drew (V.alloc _))).mono ?_); rintro e wa ⟨rfl, ha⟩; have UA := Up.trans (Up.drew (Up.alloc (Up.refl V) _)) ha; have NA := Blk.up (Blk.drew (Blk.new V 27 #[.int .i64 0, .int .i64 0, .int .i64 0])) ha; have NAc := NA.cell; have NAf := NA.frozen; have NAl := NA.lt))
      | (go_at_call 150; ((with_reducible refine (ht.out wa).mono ?_); rintro e wz ⟨rfl, hz⟩; have UZ := Up.trans UA hz; (try have NZ := Blk.up NA hz; have NZc := NZ.cell; have NZf := NZ.frozen; have NZl := NZ.lt)))
      | (go_at_call 150; ((with_reducible refine (ht.out (wa.alloc _)).mono ?_); rintro e wz ⟨rfl, hz⟩; have UZ := Up.trans (UA.alloc _) hz; have NZ := Blk.up (Blk.new wa 27 #[.int .i64 0, .int .i64 0, .int .i64 0]) hz; have NZc := NZ.cell; have NZf := NZ.frozen; have NZl := NZ.lt)))
  all_goals
    rename_i hHeld
    clear hwd ht hHeld
    first
      | (refine gen_exit (Y := fun W1 => Up V W1 ∧ Blk W1 wz.heap.size 27 #[.int .i64 s, .int .i64 a, .int .i64 l] ∧ w.heap.size + 1 + 1 < wz.heap.size) ⟨UZ.alloc _, Blk.new _ _ _, Nat.lt_of_lt_of_le R0.lt UZ.le⟩ ?_)
      | (refine gen_exit (Y := fun W1 => Up V W1 ∧ Blk W1 wa.heap.size 27 #[.int .i64 s, .int .i64 a, .int .i64 l] ∧ w.heap.size + 1 + 1 < wa.heap.size) ⟨UZ.set3 UA.le _ _ _, NZ.set3 _ _ _, Nat.lt_of_lt_of_le R0.lt UA.le⟩ ?_)
      | (refine gen_exit (Y := fun W1 => Up V W1 ∧ Blk W1 V.heap.size 27 #[.int .i64 s, .int .i64 a, .int .i64 l] ∧ w.heap.size + 1 + 1 < V.heap.size) ⟨UZ.set3 (Nat.le_refl _) _ _ _, NZ.set3 _ _ _, R0.lt⟩ ?_)
    rintro W1 ⟨Y, N1, hN⟩
    have M1 := M0.up Y
    have B1 := B0.up Y
    have R1 := R0.up Y
    have H1 := H0.up Y
    have U1 := U0.trans Y
    clear Y M0 B0 R0 H0 U0
    have M1c := M1.cell
    have H1c := H1.cell
    have B1c := B1.cell
    have R1c := R1.cell
    have R1f := R1.frozen
    have R1l := R1.lt
    go_wp2_with (fail)
    go_region
    go_wp2
    (try simp only [Exit.inBlock, Exit.then])
    refine bodyPost_ret (ret_mem4 rfl _ _ _ _ _ _ _ _ _ rfl ((R1.set3 _ _ _).drew) rfl rfl rfl) rfl ?_
    exact ⟨P, Q, c, d, rfl, ((HM.out.up U1).far3 R1 _ _ _).up (Up.refl _).drew, (U1.set3 (by omega) _ _ _).drew⟩

end Go.Proofs.YtddoljfkbkbfjaaGreat
/-! Of stage 8 -/
namespace Go.Proofs.YtddoljfkbkbfjaaGreat
open Go.ChangeShapes Go.WideShapes Go.ChangeAt Go.RowKit
set_option linter.unusedVariables false
set_option linter.unusedSimpArgs false

/-- The closure's box, wherever it lies. -/
theorem maker_at (t l mp : Int) (w : World) :
    Calls Tryz.prog 130 #[hdv t l mp] w fun e w' => ∃ g, e = .returned (.func (.func 149) #[] #[.pointer (some ⟨g, 0, none⟩)]) ∧ Up w w' ∧ w.heap.size ≤ g ∧ Blk w' g 60 (hcs t l mp) :=
  (maker_any t l mp w).mono fun e w' h => ⟨_, h.1, h.2.1, Nat.le_refl _, h.2.2⟩

set_option maxRecDepth 100000 in
set_option maxHeartbeats 4000000 in
/-- There is room in the piece. -/
theorem make_a (m : Me) (P Q : Addr) (c d : Nat) (s a l x y t k mp size : Int) (w : World) (hm : Sits w m P Q c d) (hmp : 0 ≤ mp) (hh : rte t k mp = 0) (ht : t ≠ 255) (hs : s = 0 ∨ s = 1) (h0 : 0 ≤ x) (h1 : y ≤ m.n) (hn : wdn t k ≤ y - x) :
    Calls Tryz.prog 103 #[rov m.n (.slice (some P) m.n c) (.slice (some Q) m.n d) s a l x y, hdv t k mp, .int .i64 size] w (GivesR2 w (m.putm (adr s x) t k mp) s a l (x + wdn t k) y (adr s x) 0) := by
  have hw := wdn_small hmp hh
  have hr := fun w => right_any t k mp w
  rw [hh] at hr
  have hr := Lib.hid hr
  have hwd := Lib.hid (fun w => words_any t k mp hmp hh w)
  have hmk := Lib.hid (fun w => maker_at t k mp w)
  have hn4 := hm.1.2.1
  have hg := Lib.hid (fun w => gap_any m.n s a l x y (.slice (some P) m.n c) (.slice (some Q) m.n d) h0 (by omega) (by omega) (by omega) w)
  have hc := Lib.hid (fun (W : World) (g : Nat) (h : Up w W) (hH : Blk W g 60 (hcs t k mp)) => made_ok m P Q c d s x y t k mp g W (hm.up h) hmp hh ⟨hs, h0, by omega, by omega⟩ h1 hn hH)
  have hK := put_n m (adr s x) t k mp
  generalize m.putm (adr s x) t k mp = K at hc hK ⊢
  have hK := Lib.hid hK
  generalize adr s x = u at hc ⊢
  generalize x + wdn t k = x' at hc ⊢
  generalize wdn t k = n at hwd hw hn
  have hle : decide (n ≤ y - x) = true := decide_eq_true hn
  generalize y - x = q at hg hle
  have ht' : (t == 255) = false := beq_eq_false_iff_ne.mpr ht
  clear hm hmp hh hs h0 h1 hn hw hn4 ht
  go_enter Tryz.func103, Tryz.ntmps103
  go_wp2
  refine wp_scope_jumps 0 (fun _ _ => False) (fun a' _ => 0) rfl ?_ (fun _ _ hf => hf.elim)
  go_wp2_with (fail)
  refine calls_at (fun V hV => ?_)
  obtain ⟨U0, X0, H0, R0⟩ := three8 hV
  clear hV
  refine (hr.out _).mono ?_
  rintro e w1 ⟨rfl, k1⟩
  have X1 := X0.up k1
  have H1 := H0.up k1
  have R1 := R0.up k1
  have U1 := U0.trans k1
  clear k1 X0 H0 R0 U0
  have H1c := H1.cell
  go_wp2_with (fail)
  have V0 := (Up.refl w1).drew
  go_region_held3 (fun w' => ∀ i, w'.cell? ⟨w.heap.size + 1, i, none⟩ = (hcs t k mp)[i]?)
    (with_reducible exact fun i => (Blk.up H1 (by assumption)).cell i)
    (first
      | (go_at_call 129; ((with_reducible refine (hwd.out w1.drew).mono ?_); rintro e wa ⟨rfl, ha⟩; have UA := Up.trans V0 ha))
      | (go_at_call 130; ((with_reducible refine (hmk.out wa).mono ?_); rintro e wz ⟨g, rfl, hz, hgb, GZ⟩; have UZ := Up.trans UA hz; have hgz := Nat.le_trans UA.le hgb)))
  rename_i hHeld
  clear hHeld hwd hmk hr
  have hgw : w.heap.size + 1 + 1 < g := Nat.lt_of_lt_of_le R1.lt hgz
  have X2 := X1.up UZ
  have R2 := R1.up UZ
  have U2 := U1.trans UZ
  clear V0 X1 R1 U1 H1 H1c UZ hgz hgb ha UA hz
  go_wp2_with (fail)
  go_step3
  have X2c := X2.cell
  go_wp2_with (fail)
  refine (hg.out _).mono ?_
  rintro e w3 ⟨rfl, k3⟩
  have X3 := X2.up k3
  have R3 := R2.up k3
  have U3 := U2.trans k3
  have GZ := GZ.up k3
  clear k3 X2 X2c R2 U2
  have X3c := X3.cell
  go_wp2_with (fail)
  refine (hc.out _ g U3 GZ).mono ?_
  rintro e w4 ⟨P', Q', c', d', rfl, sz, k4⟩
  have X4 := X3.up k4
  have R4 := R3.up k4
  have U4 := U3.trans k4
  clear k4 X3 X3c R3 U3 GZ
  have X4c := X4.cell
  have X4f := X4.frozen
  have X4l := X4.lt
  have R4c := R4.cell
  have R4f := R4.frozen
  have R4l := R4.lt
  go_wp2_with (fail)
  (try simp only [Exit.inBlock, Exit.then])
  (try simp only [Exit.jump])
  refine bodyPost_ret (ret_room3 rfl _ _ _ _ _ _ _ _ _ _ _ _ _ rfl (((((R4.far (by simp <;> omega) _).far (by simp <;> omega) _).far (by simp <;> omega) _).far (by simp <;> omega) _).set8 _ _ _ _ _ _ _ _) rfl rfl) rfl ?_
  refine ⟨P', Q', c', d', by rw [hK.out]; rfl, sz.kp (S := [w.heap.size, w.heap.size + 1 + 1]) ?_ (Tiny.two X4 R4 (by simp) (by simp)), U4.kp (S := [w.heap.size, w.heap.size + 1 + 1]) ?_ (by simp <;> omega)⟩
  all_goals
    exact (Kp.set_ (Kp.set_ (Kp.set_ (Kp.set_ (Kp.set_ (Kp.set_ (Kp.set_ (Kp.set_ (Kp.set_ (Kp.set_ (Kp.set_ (Kp.set_ (Kp.refl _ _) (by simp) _) (by simp) _) (by simp) _) (by simp) _) (by simp) _) (by simp) _) (by simp) _) (by simp) _) (by simp) _) (by simp) _) (by simp) _) (by simp) _)

set_option maxRecDepth 100000 in
set_option maxHeartbeats 4000000 in
/-- There is no room in the piece, and it is made where the space goes on. -/
theorem make_b (m : Me) (P Q : Addr) (c d : Nat) (s a l x y t k mp size : Int) (w : World) (hm : Sits w m P Q c d) (hmp : 0 ≤ mp) (hh : rte t k mp = 0) (ht : t ≠ 255) (hs : rgt s a l) (h0 : 0 ≤ x) (h1 : y ≤ m.n) (h2 : l ≤ m.n) (h3 : x ≤ y) (hn : y - x < wdn t k) (hn2 : size < 2 * wdn t k) (hn3 : wdn t k ≤ l - a) :
    Calls Tryz.prog 103 #[rov m.n (.slice (some P) m.n c) (.slice (some Q) m.n d) s a l x y, hdv t k mp, .int .i64 size] w (GivesR2 w (m.putm (adr s a) t k mp) s (a + wdn t k) l x y (adr s a) 0) := by
  have hw := wdn_small hmp hh
  have hr := fun w => right_any t k mp w
  rw [hh] at hr
  have hr := Lib.hid hr
  have hwd := Lib.hid (fun w => words_any t k mp hmp hh w)
  have hmk := Lib.hid (fun w => maker_at t k mp w)
  have hn4 := hm.1.2.1
  have hg := Lib.hid (fun w => gap_any m.n s a l x y (.slice (some P) m.n c) (.slice (some Q) m.n d) h0 (by omega) (by omega) (by omega) w)
  have hc := Lib.hid (fun (W : World) (g : Nat) (h : Up w W) (hH : Blk W g 60 (hcs t k mp)) => made_ok m P Q c d s a l t k mp g W (hm.up h) hmp hh hs h2 hn3 hH)
  have hK := put_n m (adr s a) t k mp
  generalize m.putm (adr s a) t k mp = K at hc hK ⊢
  have hK := Lib.hid hK
  generalize adr s a = u at hc ⊢
  generalize a + wdn t k = a' at hc ⊢
  clear hn3 h2
  generalize wdn t k = n at hwd hw hn hn2
  have hle : decide (n ≤ y - x) = false := decide_eq_false (by omega)
  have b0 := hw.1
  have b1 := hw.2
  generalize y - x = q at hg hle
  have hd : decide (size < 2 * n) = true := decide_eq_true hn2
  clear hn2 h3
  have ht' : (t == 255) = false := beq_eq_false_iff_ne.mpr ht
  clear hm hmp hh hs h0 h1 hn hw hn4 ht
  go_enter Tryz.func103, Tryz.ntmps103
  go_wp2
  refine wp_scope_jumps 0 (fun _ _ => False) (fun a' _ => 0) rfl ?_ (fun _ _ hf => hf.elim)
  go_wp2_with (fail)
  refine calls_at (fun V hV => ?_)
  obtain ⟨U0, X0, H0, R0⟩ := three8 hV
  clear hV
  refine (hr.out _).mono ?_
  rintro e w1 ⟨rfl, k1⟩
  have X1 := X0.up k1
  have H1 := H0.up k1
  have R1 := R0.up k1
  have U1 := U0.trans k1
  clear k1 X0 H0 R0 U0
  have H1c := H1.cell
  go_wp2_with (fail)
  have V0 := (Up.refl w1).drew
  go_region_held3 (fun w' => ∀ i, w'.cell? ⟨w.heap.size + 1, i, none⟩ = (hcs t k mp)[i]?)
    (with_reducible exact fun i => (Blk.up H1 (by assumption)).cell i)
    (first
      | (go_at_call 129; ((with_reducible refine (hwd.out w1.drew).mono ?_); rintro e wa ⟨rfl, ha⟩; have UA := Up.trans V0 ha))
      | (go_at_call 130; ((with_reducible refine (hmk.out wa).mono ?_); rintro e wz ⟨g, rfl, hz, hgb, GZ⟩; have UZ := Up.trans UA hz; have hgz := Nat.le_trans UA.le hgb)))
  rename_i hHeld
  clear hHeld hwd hmk hr
  have hgw : w.heap.size + 1 + 1 < g := Nat.lt_of_lt_of_le R1.lt hgz
  have X2 := X1.up UZ
  have R2 := R1.up UZ
  have U2 := U1.trans UZ
  clear V0 X1 R1 U1 H1 H1c UZ hgz hgb ha UA hz
  go_wp2_with (fail)
  go_step3
  have X2c := X2.cell
  go_wp2_with (fail)
  refine (hg.out _).mono ?_
  rintro e w3 ⟨rfl, k3⟩
  have X3 := X2.up k3
  have R3 := R2.up k3
  have U3 := U2.trans k3
  have GZ := GZ.up k3
  clear k3 X2 X2c R2 U2
  have X3c := X3.cell
  go_wp2_with (fail)
  refine (hc.out _ g U3 GZ).mono ?_
  rintro e w4 ⟨P', Q', c', d', rfl, sz, k4⟩
  have X4 := X3.up k4
  have R4 := R3.up k4
  have U4 := U3.trans k4
  clear k4 X3 X3c R3 U3 GZ
  have X4c := X4.cell
  have X4f := X4.frozen
  have X4l := X4.lt
  have R4c := R4.cell
  have R4f := R4.frozen
  have R4l := R4.lt
  go_wp2_with (fail)
  (try simp only [Exit.inBlock, Exit.then])
  (try simp only [Exit.jump])
  refine bodyPost_ret (ret_room3 rfl _ _ _ _ _ _ _ _ _ _ _ _ _ rfl (((((R4.far (by simp <;> omega) _).far (by simp <;> omega) _).far (by simp <;> omega) _).far (by simp <;> omega) _).set8 _ _ _ _ _ _ _ _) rfl rfl) rfl ?_
  refine ⟨P', Q', c', d', by rw [hK.out]; rfl, sz.kp (S := [w.heap.size, w.heap.size + 1 + 1]) ?_ (Tiny.two X4 R4 (by simp) (by simp)), U4.kp (S := [w.heap.size, w.heap.size + 1 + 1]) ?_ (by simp <;> omega)⟩
  all_goals
    exact (Kp.set_ (Kp.set_ (Kp.set_ (Kp.set_ (Kp.set_ (Kp.set_ (Kp.set_ (Kp.set_ (Kp.set_ (Kp.set_ (Kp.set_ (Kp.set_ (Kp.refl _ _) (by simp) _) (by simp) _) (by simp) _) (by simp) _) (by simp) _) (by simp) _) (by simp) _) (by simp) _) (by simp) _) (by simp) _) (by simp) _) (by simp) _)

set_option maxRecDepth 100000 in
set_option maxHeartbeats 4000000 in
/-- There is no room in the piece, and none where the space goes on. -/
theorem make_bf (m : Me) (P Q : Addr) (c d : Nat) (s a l x y t k mp size : Int) (w : World) (hm : Sits w m P Q c d) (hmp : 0 ≤ mp) (hh : rte t k mp = 0) (ht : t ≠ 255) (hs : rgt s a l) (h0 : 0 ≤ x) (h1 : y ≤ m.n) (h3 : x ≤ y) (hn : y - x < wdn t k) (hn2 : size < 2 * wdn t k) (hn3 : l - a < wdn t k) :
    Calls Tryz.prog 103 #[rov m.n (.slice (some P) m.n c) (.slice (some Q) m.n d) s a l x y, hdv t k mp, .int .i64 size] w (GivesR2 w m s a l x y 0 4) := by
  have hw := wdn_small hmp hh
  have hr := fun w => right_any t k mp w
  rw [hh] at hr
  have hr := Lib.hid hr
  have hwd := Lib.hid (fun w => words_any t k mp hmp hh w)
  have hmk := Lib.hid (fun w => maker_at t k mp w)
  have hn4 := hm.1.2.1
  have hg := Lib.hid (fun w => gap_any m.n s a l x y (.slice (some P) m.n c) (.slice (some Q) m.n d) h0 (by omega) (by omega) (by omega) w)
  have hc := Lib.hid (fun (W : World) (g : Nat) (h : Up w W) (hH : Blk W g 60 (hcs t k mp)) => made_full m P Q c d s a l t k mp g W (hm.up h) hmp hh hs hn3 hH)
  clear hn3
  generalize wdn t k = n at hwd hw hn hn2
  have hle : decide (n ≤ y - x) = false := decide_eq_false (by omega)
  have b0 := hw.1
  have b1 := hw.2
  generalize y - x = q at hg hle
  have hd : decide (size < 2 * n) = true := decide_eq_true hn2
  clear hn2 h3
  have ht' : (t == 255) = false := beq_eq_false_iff_ne.mpr ht
  clear hm hmp hh hs h0 h1 hn hw hn4 ht
  go_enter Tryz.func103, Tryz.ntmps103
  go_wp2
  refine wp_scope_jumps 0 (fun _ _ => False) (fun a' _ => 0) rfl ?_ (fun _ _ hf => hf.elim)
  go_wp2_with (fail)
  refine calls_at (fun V hV => ?_)
  obtain ⟨U0, X0, H0, R0⟩ := three8 hV
  clear hV
  refine (hr.out _).mono ?_
  rintro e w1 ⟨rfl, k1⟩
  have X1 := X0.up k1
  have H1 := H0.up k1
  have R1 := R0.up k1
  have U1 := U0.trans k1
  clear k1 X0 H0 R0 U0
  have H1c := H1.cell
  go_wp2_with (fail)
  have V0 := (Up.refl w1).drew
  go_region_held3 (fun w' => ∀ i, w'.cell? ⟨w.heap.size + 1, i, none⟩ = (hcs t k mp)[i]?)
    (with_reducible exact fun i => (Blk.up H1 (by assumption)).cell i)
    (first
      | (go_at_call 129; ((with_reducible refine (hwd.out w1.drew).mono ?_); rintro e wa ⟨rfl, ha⟩; have UA := Up.trans V0 ha))
      | (go_at_call 130; ((with_reducible refine (hmk.out wa).mono ?_); rintro e wz ⟨g, rfl, hz, hgb, GZ⟩; have UZ := Up.trans UA hz; have hgz := Nat.le_trans UA.le hgb)))
  rename_i hHeld
  clear hHeld hwd hmk hr
  have hgw : w.heap.size + 1 + 1 < g := Nat.lt_of_lt_of_le R1.lt hgz
  have X2 := X1.up UZ
  have R2 := R1.up UZ
  have U2 := U1.trans UZ
  clear V0 X1 R1 U1 H1 H1c UZ hgz hgb ha UA hz
  go_wp2_with (fail)
  go_step3
  have X2c := X2.cell
  go_wp2_with (fail)
  refine (hg.out _).mono ?_
  rintro e w3 ⟨rfl, k3⟩
  have X3 := X2.up k3
  have R3 := R2.up k3
  have U3 := U2.trans k3
  have GZ := GZ.up k3
  clear k3 X2 X2c R2 U2
  have X3c := X3.cell
  go_wp2_with (fail)
  refine (hc.out _ g U3 GZ).mono ?_
  rintro e w4 ⟨P', Q', c', d', rfl, sz, k4⟩
  have X4 := X3.up k4
  have R4 := R3.up k4
  have U4 := U3.trans k4
  clear k4 X3 X3c R3 U3 GZ
  have X4c := X4.cell
  have X4f := X4.frozen
  have X4l := X4.lt
  have R4c := R4.cell
  have R4f := R4.frozen
  have R4l := R4.lt
  go_wp2_with (fail)
  (try simp only [Exit.inBlock, Exit.then])
  (try simp only [Exit.jump])
  refine bodyPost_ret (ret_room3 rfl _ _ _ _ _ _ _ _ _ _ _ _ _ rfl (((((R4.far (by simp <;> omega) _).far (by simp <;> omega) _).far (by simp <;> omega) _).far (by simp <;> omega) _).set8 _ _ _ _ _ _ _ _) rfl rfl) rfl ?_
  refine ⟨P', Q', c', d', by rfl, sz.kp (S := [w.heap.size, w.heap.size + 1 + 1]) ?_ (Tiny.two X4 R4 (by simp) (by simp)), U4.kp (S := [w.heap.size, w.heap.size + 1 + 1]) ?_ (by simp <;> omega)⟩
  all_goals
    exact (Kp.set_ (Kp.set_ (Kp.set_ (Kp.set_ (Kp.set_ (Kp.set_ (Kp.set_ (Kp.set_ (Kp.set_ (Kp.set_ (Kp.set_ (Kp.set_ (Kp.refl _ _) (by simp) _) (by simp) _) (by simp) _) (by simp) _) (by simp) _) (by simp) _) (by simp) _) (by simp) _) (by simp) _) (by simp) _) (by simp) _) (by simp) _)

end Go.Proofs.YtddoljfkbkbfjaaGreat
