/- Package bump: what is taken (Take). -/
import Derived.Test.YtgcpkgogjcgfbaaBm1
namespace Go.Proofs.Ytgcpkgogjcgfbaa
open Go.ChangeShapes Go.WideShapes Go.ChangeAt Go.RowKit
set_option linter.unusedVariables false
set_option linter.unusedSimpArgs false

set_option maxHeartbeats 1000000 in
theorem take_arg (s a l n : Int) (h : ¬ (rgt s a l ∧ 1 ≤ n)) (w : World) :
    Calls Try.prog 89 #[bv s a l, .int .i64 n] w fun e w' => e = .returned (.tuple #[bv s a l, .int .u64 0, .int .i64 1]) ∧ Up w w' := by
  have hr := Lib.hid (bright_any s a l)
  have hm := Lib.hid (room_any s a l)
  by_cases c : rgt s a l
  · have c1 : n < 1 := by
      rcases Int.lt_or_le n 1 with q | q
      · exact q
      · exact absurd ⟨c, q⟩ h
    rw [show rgb s a l = true from decide_eq_true c] at hr
    clear h c
    go_enter Try.func89, Try.ntmps89
    go_wp2_with (fail)
    refine (hm.out _).mono ?_
    rintro e w1 ⟨g, rfl, k1, hge, G⟩
    have A := ((Blk.new w 27 #[.int .i64 s, .int .i64 a, .int .i64 l]).alloc (.cells #[.int .i64 0, .int .i64 0, .int .i64 0] 27)).up k1
    have R := (Blk.new' (w.alloc (.cells #[.int .i64 s, .int .i64 a, .int .i64 l] 27)) (g := w.heap.size + 1) (by simp) 27 #[.int .i64 0, .int .i64 0, .int .i64 0]).up k1
    have U := (((Up.refl w).alloc (.cells #[.int .i64 s, .int .i64 a, .int .i64 l] 27)).alloc (.cells #[.int .i64 0, .int .i64 0, .int .i64 0] 27)).trans k1
    have Ac := A.cell
    clear k1 hge
    go_wp2_with (fail)
    refine (hr.out _).mono ?_
    rintro e w2 ⟨rfl, k2⟩
    replace A := A.up k2
    replace R := R.up k2
    replace G := G.up k2
    replace U := U.trans k2
    clear k2 Ac
    have Ac := A.cell
    have Af := A.frozen
    have Al := A.lt
    have Rc := R.cell
    have Rf := R.frozen
    have Rl := R.lt
    go_wp2
    (try simp only [Exit.inBlock, Exit.then])
    refine bodyPost_ret (ret_bump rfl _ _ _ _ _ _ _ _ rfl (R.set3 _ _ _) rfl rfl) rfl ?_
    exact ⟨rfl, U.set3 (by omega) _ _ _⟩
  · rw [show rgb s a l = false from decide_eq_false c] at hr
    clear h c
    go_enter Try.func89, Try.ntmps89
    go_wp2_with (fail)
    refine (hm.out _).mono ?_
    rintro e w1 ⟨g, rfl, k1, hge, G⟩
    have A := ((Blk.new w 27 #[.int .i64 s, .int .i64 a, .int .i64 l]).alloc (.cells #[.int .i64 0, .int .i64 0, .int .i64 0] 27)).up k1
    have R := (Blk.new' (w.alloc (.cells #[.int .i64 s, .int .i64 a, .int .i64 l] 27)) (g := w.heap.size + 1) (by simp) 27 #[.int .i64 0, .int .i64 0, .int .i64 0]).up k1
    have U := (((Up.refl w).alloc (.cells #[.int .i64 s, .int .i64 a, .int .i64 l] 27)).alloc (.cells #[.int .i64 0, .int .i64 0, .int .i64 0] 27)).trans k1
    have Ac := A.cell
    clear k1 hge
    go_wp2_with (fail)
    refine (hr.out _).mono ?_
    rintro e w2 ⟨rfl, k2⟩
    replace A := A.up k2
    replace R := R.up k2
    replace G := G.up k2
    replace U := U.trans k2
    clear k2 Ac
    have Ac := A.cell
    have Af := A.frozen
    have Al := A.lt
    have Rc := R.cell
    have Rf := R.frozen
    have Rl := R.lt
    go_wp2
    (try simp only [Exit.inBlock, Exit.then])
    refine bodyPost_ret (ret_bump rfl _ _ _ _ _ _ _ _ rfl (R.set3 _ _ _) rfl rfl) rfl ?_
    exact ⟨rfl, U.set3 (by omega) _ _ _⟩

set_option maxHeartbeats 1000000 in
theorem take_full (s a l n : Int) (h : rgt s a l) (h1 : 1 ≤ n) (h2 : l - a < n) (w : World) :
    Calls Try.prog 89 #[bv s a l, .int .i64 n] w fun e w' => e = .returned (.tuple #[bv s a l, .int .u64 0, .int .i64 4]) ∧ Up w w' := by
  have hr := Lib.hid (bright_any s a l)
  have hm := Lib.hid (room_any s a l)
  rw [show rgb s a l = true from decide_eq_true h] at hr
  rw [show lft s a l = l - a from if_pos h] at hm
  have C0 : ∀ g w, Blk w g 3 #[.int .i64 (l - a)] → Calls Try.prog 111 #[.int .i64 n, .pointer (some ⟨g, 0, none⟩)] w fun e w' => e = .returned (.int .i64 (l - a)) ∧ w = w' := fun g w G => by
    have := can_any n (l - a) g w G
    rwa [if_neg (by omega)] at this
  have C0 := Lib.hid C0
  have d : decide (l - a < n) = true := decide_eq_true h2
  have d1 : ¬ n < 1 := by omega
  clear h h2
  go_enter Try.func89, Try.ntmps89
  go_wp2_with (fail)
  refine (hm.out _).mono ?_
  rintro e w1 ⟨g, rfl, k1, hge, G⟩
  have A := ((Blk.new w 27 #[.int .i64 s, .int .i64 a, .int .i64 l]).alloc (.cells #[.int .i64 0, .int .i64 0, .int .i64 0] 27)).up k1
  have R := (Blk.new' (w.alloc (.cells #[.int .i64 s, .int .i64 a, .int .i64 l] 27)) (g := w.heap.size + 1) (by simp) 27 #[.int .i64 0, .int .i64 0, .int .i64 0]).up k1
  have U := (((Up.refl w).alloc (.cells #[.int .i64 s, .int .i64 a, .int .i64 l] 27)).alloc (.cells #[.int .i64 0, .int .i64 0, .int .i64 0] 27)).trans k1
  have Ac := A.cell
  clear k1 hge
  go_wp2_with (fail)
  refine (hr.out _).mono ?_
  rintro e w2 ⟨rfl, k2⟩
  replace A := A.up k2
  replace R := R.up k2
  replace G := G.up k2
  replace U := U.trans k2
  clear k2 Ac
  have Ac := A.cell
  have Af := A.frozen
  have Al := A.lt
  have Rc := R.cell
  have Rf := R.frozen
  have Rl := R.lt
  have C := Lib.hid (C0.out g w2 G)
  go_wp2_with (fail)
  refine C.out.mono ?_
  rintro e w3 ⟨rfl, rfl⟩
  go_wp2
  (try simp only [Exit.inBlock, Exit.then])
  refine bodyPost_ret (ret_bump rfl _ _ _ _ _ _ _ _ rfl (R.set3 _ _ _) rfl rfl) rfl ?_
  exact ⟨rfl, U.set3 (by omega) _ _ _⟩

set_option maxHeartbeats 1000000 in
theorem btake_ok (s a l n : Int) (h : may s a l n) (w : World) :
    Calls Try.prog 89 #[bv s a l, .int .i64 n] w fun e w' => e = .returned (.tuple #[bv s (a + n) l, .int .u64 (adr s a), .int .i64 0]) ∧ Up w w' := by
  obtain ⟨h, h1, h2⟩ := h
  have hr := Lib.hid (bright_any s a l)
  have hm := Lib.hid (room_any s a l)
  rw [show rgb s a l = true from decide_eq_true h] at hr
  rw [show lft s a l = l - a from if_pos h] at hm
  have C0 : ∀ g w, Blk w g 3 #[.int .i64 (l - a)] → Calls Try.prog 111 #[.int .i64 n, .pointer (some ⟨g, 0, none⟩)] w fun e w' => e = .returned (.int .i64 n) ∧ w = w' := fun g w G => by
    have := can_any n (l - a) g w G
    rwa [if_pos (by omega)] at this
  have C0 := Lib.hid C0
  have HA := Lib.hid (addr_ok s a ⟨h.1, h.2.1, by have := h.2.2; omega⟩)
  have d1 : ¬ n < 1 := by omega
  have b0 : 0 ≤ a := h.2.1
  have b1 : a + n ≤ 4096 := by have := h.2.2; omega
  clear h h2
  go_enter Try.func89, Try.ntmps89
  go_wp2_with (fail)
  refine (hm.out _).mono ?_
  rintro e w1 ⟨g, rfl, k1, hge, G⟩
  have A := ((Blk.new w 27 #[.int .i64 s, .int .i64 a, .int .i64 l]).alloc (.cells #[.int .i64 0, .int .i64 0, .int .i64 0] 27)).up k1
  have R := (Blk.new' (w.alloc (.cells #[.int .i64 s, .int .i64 a, .int .i64 l] 27)) (g := w.heap.size + 1) (by simp) 27 #[.int .i64 0, .int .i64 0, .int .i64 0]).up k1
  have U := (((Up.refl w).alloc (.cells #[.int .i64 s, .int .i64 a, .int .i64 l] 27)).alloc (.cells #[.int .i64 0, .int .i64 0, .int .i64 0] 27)).trans k1
  have Ac := A.cell
  clear k1 hge
  go_wp2_with (fail)
  refine (hr.out _).mono ?_
  rintro e w2 ⟨rfl, k2⟩
  replace A := A.up k2
  replace R := R.up k2
  replace G := G.up k2
  replace U := U.trans k2
  clear k2 Ac
  have Ac := A.cell
  have Af := A.frozen
  have Al := A.lt
  have Rc := R.cell
  have Rf := R.frozen
  have Rl := R.lt
  have C := Lib.hid (C0.out g w2 G)
  go_wp2_with (fail)
  refine C.out.mono ?_
  rintro e w3 ⟨rfl, rfl⟩
  go_wp2_with (fail)
  refine (HA.out _).mono ?_
  rintro e w4 ⟨rfl, rfl⟩
  go_wp2_with (fail)
  (try simp only [Exit.inBlock, Exit.then])
  refine bodyPost_ret (ret_bump rfl _ _ _ _ _ _ _ _ rfl ((R.far (p := ⟨w.heap.size, 1, none⟩) (by simp) _).set3 _ _ _) rfl rfl) rfl ?_
  exact ⟨rfl, (U.setCell (Nat.le_refl _) _).set3 (by omega) _ _ _⟩

/-! ### The same, told by functions -/
instance decMay (s a l n : Int) : Decidable (may s a l n) := by unfold may; infer_instance
def tka (s a l n : Int) : Int := if may s a l n then a + n else a
def tkw (s a l n : Int) : Int := if may s a l n then adr s a else 0
def btke (s a l n : Int) : Int := if may s a l n then 0 else if rgt s a l ∧ 1 ≤ n then 4 else 1
theorem btake_any (s a l n : Int) (w : World) :
    Calls Try.prog 89 #[bv s a l, .int .i64 n] w fun e w' => e = .returned (.tuple #[bv s (tka s a l n) l, .int .u64 (tkw s a l n), .int .i64 (btke s a l n)]) ∧ Up w w' := by
  unfold tka tkw btke
  by_cases h : may s a l n
  · rw [if_pos h, if_pos h, if_pos h]; exact btake_ok s a l n h w
  · rw [if_neg h, if_neg h, if_neg h]
    by_cases c : rgt s a l ∧ 1 ≤ n
    · rw [if_pos c]; exact take_full s a l n c.1 c.2 (by have := fun q => h ⟨c.1, c.2, q⟩; rcases Int.lt_or_le (l - a) n with q | q; exact q; exact absurd q this) w
    · rw [if_neg c]; exact take_arg s a l n c w
end Go.Proofs.Ytgcpkgogjcgfbaa
