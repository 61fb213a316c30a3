/- Package bump: what is taken at most (Most). -/
import Derived.Test.YtjolikgficknnaaBm2
namespace Go.Proofs.Ytjolikgficknnaa
open Go.ChangeShapes Go.WideShapes Go.ChangeAt Go.RowKit
set_option linter.unusedVariables false
set_option linter.unusedSimpArgs false


/-- What holds at the label: n is what is left. -/
def AtAgain (s a l m : Int) (w : World) (a' : Act) (w' : World) : Prop :=
  ∃ (g : Nat) (u8 u9 u10 u11 u12 u13 u14 u15 u16 u17 u18 u19 u20 u21 u22 u23 u24 u25 u26 u27 u28 u29 u30 u31 : Value),
    a' = { tmps := #[bv s a l, .int .i64 m, .pointer (some ⟨w.heap.size, 0, none⟩), undef, .pointer (some ⟨w.heap.size + 1, 0, none⟩), .int .u64 0, .int .i64 0, .func (.func 56) #[] #[.pointer (some ⟨g, 0, none⟩)], u8, u9, u10, u11, u12, u13, u14, u15, u16, u17, u18, u19, u20, u21, u22, u23, u24, u25, u26, u27, u28, u29, u30, u31], defers := [] }
      ∧ Up w w' ∧ Blk w' w.heap.size 27 #[.int .i64 s, .int .i64 a, .int .i64 l] ∧ Blk w' (w.heap.size + 1) 27 #[.int .i64 0, .int .i64 0, .int .i64 0]

set_option maxHeartbeats 400000 in
theorem most_ok (s a l n : Int) (h : may s a l n) (w : World) :
    Calls Try.prog 36 #[bv s a l, .int .i64 n] w fun e w' => e = .returned (.tuple #[bv s (a + n) l, .int .u64 (adr s a), .int .i64 n]) ∧ Up w w' := by
  have hm := Lib.hid (room_any s a l)
  have ht := Lib.hid (btake_ok s a l n h)
  clear h
  go_enter Try.func36, Try.ntmps36
  go_wp2
  refine wp_scope_jumps 0 (fun _ _ => False) (fun a' _ => 0) rfl ?_ ?_
  · have hc := Lib.hid (hm.out ((w.alloc (.cells #[.int .i64 s, .int .i64 a, .int .i64 l] 27)).alloc (.cells #[.int .i64 0, .int .i64 0, .int .i64 0] 27)))
    go_wp2_with (fail)
    refine hc.out.mono ?_
    rintro e w1 ⟨g, rfl, k1, hge, G⟩
    have A := ((Blk.new w 27 #[.int .i64 s, .int .i64 a, .int .i64 l]).alloc (.cells #[.int .i64 0, .int .i64 0, .int .i64 0] 27)).up k1
    have R := (Blk.new' (w.alloc (.cells #[.int .i64 s, .int .i64 a, .int .i64 l] 27)) (g := w.heap.size + 1) (by simp) 27 #[.int .i64 0, .int .i64 0, .int .i64 0]).up k1
    have U := (((Up.refl w).alloc (.cells #[.int .i64 s, .int .i64 a, .int .i64 l] 27)).alloc (.cells #[.int .i64 0, .int .i64 0, .int .i64 0] 27)).trans k1
    have Ac := A.cell
    clear k1 hge hc
    go_wp2_with (fail)
    go_step3
    go_wp2_with (fail)
    refine (ht.out _).mono ?_
    rintro e w2 ⟨rfl, k2⟩
    replace A := A.up k2
    replace R := R.up k2
    replace U := U.trans k2
    clear k2 Ac
    have Ac := A.cell
    have Al := A.lt
    have Rc := R.cell
    have Rf := R.frozen
    have Rl := R.lt
    go_wp2_with (fail)
    (try simp only [Exit.inBlock, Exit.then])
    (try simp only [Exit.jump])
    refine bodyPost_ret (ret_bump rfl _ _ _ _ _ _ _ _ rfl ((R.set3 _ _ _).alloc _) rfl rfl) rfl ?_
    exact ⟨rfl, (U.set3 (by omega) _ _ _).alloc _⟩
  · exact fun _ _ hf => hf.elim

set_option maxHeartbeats 400000 in
theorem most_arg (s a l n : Int) (h : ¬ (rgt s a l ∧ 1 ≤ n)) (w : World) :
    Calls Try.prog 36 #[bv s a l, .int .i64 n] w fun e w' => e = .returned (.tuple #[bv s a l, .int .u64 0, .int .i64 0]) ∧ Up w w' := by
  have hm := Lib.hid (room_any s a l)
  have ht := Lib.hid (take_arg s a l n h)
  clear h
  go_enter Try.func36, Try.ntmps36
  go_wp2
  refine wp_scope_jumps 0 (fun _ _ => False) (fun a' _ => 0) rfl ?_ ?_
  · have hc := Lib.hid (hm.out ((w.alloc (.cells #[.int .i64 s, .int .i64 a, .int .i64 l] 27)).alloc (.cells #[.int .i64 0, .int .i64 0, .int .i64 0] 27)))
    go_wp2_with (fail)
    refine hc.out.mono ?_
    rintro e w1 ⟨g, rfl, k1, hge, G⟩
    have A := ((Blk.new w 27 #[.int .i64 s, .int .i64 a, .int .i64 l]).alloc (.cells #[.int .i64 0, .int .i64 0, .int .i64 0] 27)).up k1
    have R := (Blk.new' (w.alloc (.cells #[.int .i64 s, .int .i64 a, .int .i64 l] 27)) (g := w.heap.size + 1) (by simp) 27 #[.int .i64 0, .int .i64 0, .int .i64 0]).up k1
    have U := (((Up.refl w).alloc (.cells #[.int .i64 s, .int .i64 a, .int .i64 l] 27)).alloc (.cells #[.int .i64 0, .int .i64 0, .int .i64 0] 27)).trans k1
    have Ac := A.cell
    clear k1 hge hc
    go_wp2_with (fail)
    go_step3
    go_wp2_with (fail)
    refine (ht.out _).mono ?_
    rintro e w2 ⟨rfl, k2⟩
    replace A := A.up k2
    replace R := R.up k2
    replace U := U.trans k2
    clear k2 Ac
    have Ac := A.cell
    have Al := A.lt
    have Rc := R.cell
    have Rf := R.frozen
    have Rl := R.lt
    go_wp2_with (fail)
    (try simp only [Exit.inBlock, Exit.then])
    (try simp only [Exit.jump])
    refine bodyPost_ret (ret_bump rfl _ _ _ _ _ _ _ _ rfl ((R.set3 _ _ _).alloc _) rfl rfl) rfl ?_
    exact ⟨rfl, (U.set3 (by omega) _ _ _).alloc _⟩
  · exact fun _ _ hf => hf.elim

set_option maxHeartbeats 400000 in
theorem most_all (s a l n : Int) (h : rgt s a l) (h1 : 1 ≤ n) (h2 : l - a < n) (h3 : 1 ≤ l - a) (w : World) :
    Calls Try.prog 36 #[bv s a l, .int .i64 n] w fun e w' => e = .returned (.tuple #[bv s (a + (l - a)) l, .int .u64 (adr s a), .int .i64 (l - a)]) ∧ Up w w' := by
  have hm := Lib.hid (room_any s a l)
  rw [show lft s a l = l - a from if_pos h] at hm
  have C0 : ∀ g w, Blk w g 3 #[.int .i64 (l - a)] → Calls Try.prog 56 #[.int .i64 n, .pointer (some ⟨g, 0, none⟩)] w fun e w' => e = .returned (.int .i64 (l - a)) ∧ w = w' := fun g w G => by
    have := can_any n (l - a) g w G
    rwa [if_neg (by omega)] at this
  have C0 := Lib.hid C0
  have ht := Lib.hid (take_full s a l n h h1 h2)
  have hu := Lib.hid (btake_ok s a l (l - a) ⟨h, h3, Int.le_refl _⟩)
  clear h h1 h2 h3
  obtain ⟨m, hmm⟩ : ∃ m, l - a = m := ⟨_, rfl⟩
  rw [hmm] at hm C0 hu
  try rw [hmm]
  go_enter Try.func36, Try.ntmps36
  go_wp2
  refine wp_scope_jumps 0 (AtAgain s a l m w) (fun a' _ => 0) rfl ?_ ?_
  · have hc := Lib.hid (hm.out ((w.alloc (.cells #[.int .i64 s, .int .i64 a, .int .i64 l] 27)).alloc (.cells #[.int .i64 0, .int .i64 0, .int .i64 0] 27)))
    go_wp2_with (fail)
    refine hc.out.mono ?_
    rintro e w1 ⟨g, rfl, k1, hge, G⟩
    have A := ((Blk.new w 27 #[.int .i64 s, .int .i64 a, .int .i64 l]).alloc (.cells #[.int .i64 0, .int .i64 0, .int .i64 0] 27)).up k1
    have R := (Blk.new' (w.alloc (.cells #[.int .i64 s, .int .i64 a, .int .i64 l] 27)) (g := w.heap.size + 1) (by simp) 27 #[.int .i64 0, .int .i64 0, .int .i64 0]).up k1
    have U := (((Up.refl w).alloc (.cells #[.int .i64 s, .int .i64 a, .int .i64 l] 27)).alloc (.cells #[.int .i64 0, .int .i64 0, .int .i64 0] 27)).trans k1
    have Ac := A.cell
    clear k1 hge hc
    go_wp2_with (fail)
    go_step3
    go_wp2_with (fail)
    refine (ht.out _).mono ?_
    rintro e w2 ⟨rfl, k2⟩
    replace A := A.up k2
    replace R := R.up k2
    replace U := U.trans k2
    replace G := G.up k2
    clear k2 Ac
    have Ac := A.cell
    have Al := A.lt
    have Rc := R.cell
    have Rf := R.frozen
    have Rl := R.lt
    have C := Lib.hid (fun w' (k : Up w2 w') => C0.out g w' (G.up k))
    go_wp2_with (fail)
    refine (C.out _ ((Up.refl w2).alloc _)).mono ?_
    rintro e w3 ⟨rfl, rfl⟩
    go_wp2_with (fail)
    go_step3
    refine ⟨rfl, g, _, _, _, _, _, _, _, _, _, _, _, _, _, _, _, _, _, _, _, _, _, _, _, _, rfl, U.alloc _, A.alloc _, R.alloc _⟩
  · rintro a' wr ⟨g, u8, u9, u10, u11, u12, u13, u14, u15, u16, u17, u18, u19, u20, u21, u22, u23, u24, u25, u26, u27, u28, u29, u30, u31, rfl, U, A, R⟩
    have Ac := A.cell
    go_wp2_with (fail)
    refine (hu.out _).mono ?_
    rintro e w4 ⟨rfl, k2⟩
    replace A := A.up k2
    replace R := R.up k2
    replace U := U.trans k2
    clear k2 Ac
    have Ac := A.cell
    have Al := A.lt
    have Rc := R.cell
    have Rf := R.frozen
    have Rl := R.lt
    go_wp2_with (fail)
    (try simp only [Exit.inBlock, Exit.then])
    (try simp only [Exit.jump])
    refine bodyPost_ret (ret_bump rfl _ _ _ _ _ _ _ _ rfl ((R.set3 _ _ _).alloc _) rfl rfl) rfl ?_
    exact ⟨rfl, (U.set3 (by omega) _ _ _).alloc _⟩

set_option maxHeartbeats 400000 in
theorem most_nil (s a l n : Int) (h : rgt s a l) (h1 : 1 ≤ n) (h2 : l - a < n) (h3 : l - a < 1) (w : World) :
    Calls Try.prog 36 #[bv s a l, .int .i64 n] w fun e w' => e = .returned (.tuple #[bv s a l, .int .u64 0, .int .i64 0]) ∧ Up w w' := by
  have hm := Lib.hid (room_any s a l)
  rw [show lft s a l = l - a from if_pos h] at hm
  have C0 : ∀ g w, Blk w g 3 #[.int .i64 (l - a)] → Calls Try.prog 56 #[.int .i64 n, .pointer (some ⟨g, 0, none⟩)] w fun e w' => e = .returned (.int .i64 (l - a)) ∧ w = w' := fun g w G => by
    have := can_any n (l - a) g w G
    rwa [if_neg (by omega)] at this
  have C0 := Lib.hid C0
  have ht := Lib.hid (take_full s a l n h h1 h2)
  have hu := Lib.hid (take_arg s a l (l - a) (fun k => by omega))
  clear h h1 h2 h3
  obtain ⟨m, hmm⟩ : ∃ m, l - a = m := ⟨_, rfl⟩
  rw [hmm] at hm C0 hu
  try rw [hmm]
  go_enter Try.func36, Try.ntmps36
  go_wp2
  refine wp_scope_jumps 0 (AtAgain s a l m w) (fun a' _ => 0) rfl ?_ ?_
  · have hc := Lib.hid (hm.out ((w.alloc (.cells #[.int .i64 s, .int .i64 a, .int .i64 l] 27)).alloc (.cells #[.int .i64 0, .int .i64 0, .int .i64 0] 27)))
    go_wp2_with (fail)
    refine hc.out.mono ?_
    rintro e w1 ⟨g, rfl, k1, hge, G⟩
    have A := ((Blk.new w 27 #[.int .i64 s, .int .i64 a, .int .i64 l]).alloc (.cells #[.int .i64 0, .int .i64 0, .int .i64 0] 27)).up k1
    have R := (Blk.new' (w.alloc (.cells #[.int .i64 s, .int .i64 a, .int .i64 l] 27)) (g := w.heap.size + 1) (by simp) 27 #[.int .i64 0, .int .i64 0, .int .i64 0]).up k1
    have U := (((Up.refl w).alloc (.cells #[.int .i64 s, .int .i64 a, .int .i64 l] 27)).alloc (.cells #[.int .i64 0, .int .i64 0, .int .i64 0] 27)).trans k1
    have Ac := A.cell
    clear k1 hge hc
    go_wp2_with (fail)
    go_step3
    go_wp2_with (fail)
    refine (ht.out _).mono ?_
    rintro e w2 ⟨rfl, k2⟩
    replace A := A.up k2
    replace R := R.up k2
    replace U := U.trans k2
    replace G := G.up k2
    clear k2 Ac
    have Ac := A.cell
    have Al := A.lt
    have Rc := R.cell
    have Rf := R.frozen
    have Rl := R.lt
    have C := Lib.hid (fun w' (k : Up w2 w') => C0.out g w' (G.up k))
    go_wp2_with (fail)
    refine (C.out _ ((Up.refl w2).alloc _)).mono ?_
    rintro e w3 ⟨rfl, rfl⟩
    go_wp2_with (fail)
    go_step3
    refine ⟨rfl, g, _, _, _, _, _, _, _, _, _, _, _, _, _, _, _, _, _, _, _, _, _, _, _, _, rfl, U.alloc _, A.alloc _, R.alloc _⟩
  · rintro a' wr ⟨g, u8, u9, u10, u11, u12, u13, u14, u15, u16, u17, u18, u19, u20, u21, u22, u23, u24, u25, u26, u27, u28, u29, u30, u31, rfl, U, A, R⟩
    have Ac := A.cell
    go_wp2_with (fail)
    refine (hu.out _).mono ?_
    rintro e w4 ⟨rfl, k2⟩
    replace A := A.up k2
    replace R := R.up k2
    replace U := U.trans k2
    clear k2 Ac
    have Ac := A.cell
    have Al := A.lt
    have Rc := R.cell
    have Rf := R.frozen
    have Rl := R.lt
    go_wp2_with (fail)
    (try simp only [Exit.inBlock, Exit.then])
    (try simp only [Exit.jump])
    refine bodyPost_ret (ret_bump rfl _ _ _ _ _ _ _ _ rfl ((R.set3 _ _ _).alloc _) rfl rfl) rfl ?_
    exact ⟨rfl, (U.set3 (by omega) _ _ _).alloc _⟩
end Go.Proofs.Ytjolikgficknnaa
