/- The statement BumpRow is proved for every input, from contracts of the functions that it calls; no condition is added. -/
import Derived.Test.YtgjalgfdpecbpaaBm5
import Derived.BigQuiet
import Derived.Deep.QuietTactic
import Derived.Deep.RegionHeld3
namespace Go.Proofs.Ytgjalgfdpecbpaa.LBumpRow
open Go.Joins Go.ChangeShapes Go.WideShapes Go.ChangeAt Go.RowKit Go.Deep
set_option linter.unusedVariables false
set_option linter.unusedSimpArgs false

theorem own : ownKnob Try.prog.godebug = none := by kernel_rfl

set_option maxHeartbeats 4000000 in
theorem w_arg (s a l n m : Int) (h : ¬ (rgt s a l ∧ 1 ≤ n)) (w : World) :
    Calls Try.prog 4 #[bv s a l, .int .i64 n, .int .i64 m] w fun e w' => e = .returned (.bool true) ∧ Up w w' := by
  have he := eq_self s a l
  have ht := Lib.hid (take_arg s a l n h)
  clear h
  go_enter Try.func4, Try.ntmps4
  go_wp2_with (fail)
  refine (shown_any _).mono ?_
  rintro e w1 ⟨rfl, k1⟩
  have A := (Blk.new w 23 #[.int .i64 s, .int .i64 a, .int .i64 l]).up k1
  have U := ((Up.refl w).alloc (.cells #[.int .i64 s, .int .i64 a, .int .i64 l] 23)).trans k1
  clear k1
  have Ac := A.cell
  have Af := A.frozen
  have Al := A.lt
  go_wp2_with (fail)
  refine (ht.out _).mono ?_
  rintro e w2 ⟨rfl, k2⟩
  replace A := A.up k2
  replace U := U.trans k2
  clear Ac Af Al
  clear k2
  have Ac := A.cell
  have Af := A.frozen
  have Al := A.lt
  go_wp2
  go_ret
  exact ⟨rfl, U.alloc _⟩

set_option maxHeartbeats 4000000 in
theorem w_full (s a l n m : Int) (h : rgt s a l) (h1 : 1 ≤ n) (h2 : l - a < n) (w : World) :
    Calls Try.prog 4 #[bv s a l, .int .i64 n, .int .i64 m] w fun e w' => e = .returned (.bool true) ∧ Up w w' := by
  have he := eq_self s a l
  have ht := Lib.hid (take_full s a l n h h1 h2)
  clear h h1 h2
  go_enter Try.func4, Try.ntmps4
  go_wp2_with (fail)
  refine (shown_any _).mono ?_
  rintro e w1 ⟨rfl, k1⟩
  have A := (Blk.new w 23 #[.int .i64 s, .int .i64 a, .int .i64 l]).up k1
  have U := ((Up.refl w).alloc (.cells #[.int .i64 s, .int .i64 a, .int .i64 l] 23)).trans k1
  clear k1
  have Ac := A.cell
  have Af := A.frozen
  have Al := A.lt
  go_wp2_with (fail)
  refine (ht.out _).mono ?_
  rintro e w2 ⟨rfl, k2⟩
  replace A := A.up k2
  replace U := U.trans k2
  clear Ac Af Al
  clear k2
  have Ac := A.cell
  have Af := A.frozen
  have Al := A.lt
  go_wp2
  go_ret
  exact ⟨rfl, U.alloc _⟩

set_option maxHeartbeats 4000000 in
theorem w_oarg (s a l n m : Int) (h : rgt s a l) (h1 : 1 ≤ n) (h2 : n ≤ l - a) (h3 : m < 1) (w : World) :
    Calls Try.prog 4 #[bv s a l, .int .i64 n, .int .i64 m] w fun e w' => e = .returned (.bool true) ∧ Up w w' := by
  have hl := fun w => left_any s a l w
  rw [show lft s a l = l - a from if_pos h] at hl
  have hl := Lib.hid hl
  have hX : rgt s (a + n) l := ⟨h.1, by have := h.2; omega, by omega, h.2.2.2⟩
  have hx := fun w => left_any s (a + n) l w
  rw [show lft s (a + n) l = l - (a + n) from if_pos hX] at hx
  have hx := Lib.hid hx
  have hr := fun w => right_any s (a + n) l w
  rw [show rgb s (a + n) l = true from decide_eq_true hX] at hr
  have hr := Lib.hid hr
  have ht := Lib.hid (take_ok s a l n ⟨h, h1, h2⟩)
  have b0 : 0 ≤ a := h.2.1
  have b1 : l ≤ 4096 := h.2.2.2
  have b2 : a + n ≤ l := by omega
  have d1 : (l - (a + n) != l - a - n) = false := by rw [show l - (a + n) = l - a - n by omega]; exact bne_self_eq_false _
  have d2 : (l - (a + n) != IntKind.i64.wrap (l - a - n)) = false := by rw [show IntKind.i64.wrap (l - a - n) = l - (a + n) by rw [IntKind.wrap_i64]; omega]; exact bne_self_eq_false _
  have hu := Lib.hid (take_arg s (a + n) l m (fun k => by omega))
  clear hX h
  go_enter Try.func4, Try.ntmps4
  go_wp2_with (fail)
  refine (shown_any _).mono ?_
  rintro e w1 ⟨rfl, k1⟩
  have A := (Blk.new w 23 #[.int .i64 s, .int .i64 a, .int .i64 l]).up k1
  have U := ((Up.refl w).alloc (.cells #[.int .i64 s, .int .i64 a, .int .i64 l] 23)).trans k1
  clear k1
  have Ac := A.cell
  have Af := A.frozen
  have Al := A.lt
  go_wp2_with (fail)
  refine (ht.out _).mono ?_
  rintro e w2 ⟨rfl, k2⟩
  replace A := A.up k2
  replace U := U.trans k2
  clear Ac Af Al
  clear k2
  have Ac := A.cell
  have Af := A.frozen
  have Al := A.lt
  go_wp2_with (fail)
  refine (hu.out _).mono ?_
  rintro e w3 ⟨rfl, k3⟩
  replace A := (A.alloc (.cells #[.int .i64 s, .int .i64 (a + n), .int .i64 l] 23)).up k3
  have N := (Blk.new w2 23 #[.int .i64 s, .int .i64 (a + n), .int .i64 l]).up k3
  replace U := (U.alloc (.cells #[.int .i64 s, .int .i64 (a + n), .int .i64 l] 23)).trans k3
  clear Ac Af Al
  clear k3
  have Ac := A.cell
  have Af := A.frozen
  have Al := A.lt
  have Nc := N.cell
  have Nf := N.frozen
  have Nl := N.lt
  have A0 := (A.alloc (.cells #[.int .i64 s, .int .i64 (a + n), .int .i64 l] 23)).drew
  have N0 := (N.alloc (.cells #[.int .i64 s, .int .i64 (a + n), .int .i64 l] 23)).drew
  have Y0 := (Blk.new w3 23 #[.int .i64 s, .int .i64 (a + n), .int .i64 l]).drew
  have UW := (U.alloc (.cells #[.int .i64 s, .int .i64 (a + n), .int .i64 l] 23)).drew
  have U0 := Up.refl (w3.alloc (.cells #[.int .i64 s, .int .i64 (a + n), .int .i64 l] 23)).drew
  clear A Ac Af Al N Nc Nf Nl U
  go_wp2_with (fail)
  go_region_held3 (fun w' => (∀ i, w'.cell? ⟨w.heap.size, i, none⟩ = (#[.int .i64 s, .int .i64 a, .int .i64 l] : Array Value)[i]?) ∧ (∀ i, w'.cell? ⟨w2.heap.size, i, none⟩ = (#[.int .i64 s, .int .i64 (a + n), .int .i64 l] : Array Value)[i]?))
    (exact ⟨fun i => (Blk.up A0 (by assumption)).cell i, fun i => (Blk.up N0 (by assumption)).cell i⟩)
    (first
      | (go_at_call 15; ((with_reducible refine (hx.out _).mono ?_); rintro e wz ⟨rfl, hz⟩; have UZ := Up.trans (a := (w3.alloc (.cells #[.int .i64 s, .int .i64 (a + n), .int .i64 l] 23)).drew) (by assumption) hz))
      | (go_at_call 15; ((with_reducible refine (hl.out _).mono ?_); rintro e wz ⟨rfl, hz⟩; have UZ := Up.trans (a := (w3.alloc (.cells #[.int .i64 s, .int .i64 (a + n), .int .i64 l] 23)).drew) (by assumption) hz))
      | (go_at_call 13; ((with_reducible refine (hr.out _).mono ?_); rintro e wz ⟨rfl, hz⟩; have UZ := Up.trans (a := (w3.alloc (.cells #[.int .i64 s, .int .i64 (a + n), .int .i64 l] 23)).drew) (by assumption) hz)))
  all_goals
    have U1 := UW.trans UZ
    go_wp2_with (fail)
    go_quiet (fail)
    go_wp2
    go_ret
    exact ⟨rfl, U1.drewN _⟩

set_option maxHeartbeats 4000000 in
theorem w_ofull (s a l n m : Int) (h : rgt s a l) (h1 : 1 ≤ n) (h2 : n ≤ l - a) (h3 : 1 ≤ m) (h4 : l - (a + n) < m) (w : World) :
    Calls Try.prog 4 #[bv s a l, .int .i64 n, .int .i64 m] w fun e w' => e = .returned (.bool true) ∧ Up w w' := by
  have hl := fun w => left_any s a l w
  rw [show lft s a l = l - a from if_pos h] at hl
  have hl := Lib.hid hl
  have hX : rgt s (a + n) l := ⟨h.1, by have := h.2; omega, by omega, h.2.2.2⟩
  have hx := fun w => left_any s (a + n) l w
  rw [show lft s (a + n) l = l - (a + n) from if_pos hX] at hx
  have hx := Lib.hid hx
  have hr := fun w => right_any s (a + n) l w
  rw [show rgb s (a + n) l = true from decide_eq_true hX] at hr
  have hr := Lib.hid hr
  have ht := Lib.hid (take_ok s a l n ⟨h, h1, h2⟩)
  have b0 : 0 ≤ a := h.2.1
  have b1 : l ≤ 4096 := h.2.2.2
  have b2 : a + n ≤ l := by omega
  have d1 : (l - (a + n) != l - a - n) = false := by rw [show l - (a + n) = l - a - n by omega]; exact bne_self_eq_false _
  have d2 : (l - (a + n) != IntKind.i64.wrap (l - a - n)) = false := by rw [show IntKind.i64.wrap (l - a - n) = l - (a + n) by rw [IntKind.wrap_i64]; omega]; exact bne_self_eq_false _
  have hu := Lib.hid (take_full s (a + n) l m hX h3 h4)
  clear hX h
  go_enter Try.func4, Try.ntmps4
  go_wp2_with (fail)
  refine (shown_any _).mono ?_
  rintro e w1 ⟨rfl, k1⟩
  have A := (Blk.new w 23 #[.int .i64 s, .int .i64 a, .int .i64 l]).up k1
  have U := ((Up.refl w).alloc (.cells #[.int .i64 s, .int .i64 a, .int .i64 l] 23)).trans k1
  clear k1
  have Ac := A.cell
  have Af := A.frozen
  have Al := A.lt
  go_wp2_with (fail)
  refine (ht.out _).mono ?_
  rintro e w2 ⟨rfl, k2⟩
  replace A := A.up k2
  replace U := U.trans k2
  clear Ac Af Al
  clear k2
  have Ac := A.cell
  have Af := A.frozen
  have Al := A.lt
  go_wp2_with (fail)
  refine (hu.out _).mono ?_
  rintro e w3 ⟨rfl, k3⟩
  replace A := (A.alloc (.cells #[.int .i64 s, .int .i64 (a + n), .int .i64 l] 23)).up k3
  have N := (Blk.new w2 23 #[.int .i64 s, .int .i64 (a + n), .int .i64 l]).up k3
  replace U := (U.alloc (.cells #[.int .i64 s, .int .i64 (a + n), .int .i64 l] 23)).trans k3
  clear Ac Af Al
  clear k3
  have Ac := A.cell
  have Af := A.frozen
  have Al := A.lt
  have Nc := N.cell
  have Nf := N.frozen
  have Nl := N.lt
  have A0 := (A.alloc (.cells #[.int .i64 s, .int .i64 (a + n), .int .i64 l] 23)).drew
  have N0 := (N.alloc (.cells #[.int .i64 s, .int .i64 (a + n), .int .i64 l] 23)).drew
  have Y0 := (Blk.new w3 23 #[.int .i64 s, .int .i64 (a + n), .int .i64 l]).drew
  have UW := (U.alloc (.cells #[.int .i64 s, .int .i64 (a + n), .int .i64 l] 23)).drew
  have U0 := Up.refl (w3.alloc (.cells #[.int .i64 s, .int .i64 (a + n), .int .i64 l] 23)).drew
  clear A Ac Af Al N Nc Nf Nl U
  go_wp2_with (fail)
  go_region_held3 (fun w' => (∀ i, w'.cell? ⟨w.heap.size, i, none⟩ = (#[.int .i64 s, .int .i64 a, .int .i64 l] : Array Value)[i]?) ∧ (∀ i, w'.cell? ⟨w2.heap.size, i, none⟩ = (#[.int .i64 s, .int .i64 (a + n), .int .i64 l] : Array Value)[i]?))
    (exact ⟨fun i => (Blk.up A0 (by assumption)).cell i, fun i => (Blk.up N0 (by assumption)).cell i⟩)
    (first
      | (go_at_call 15; ((with_reducible refine (hx.out _).mono ?_); rintro e wz ⟨rfl, hz⟩; have UZ := Up.trans (a := (w3.alloc (.cells #[.int .i64 s, .int .i64 (a + n), .int .i64 l] 23)).drew) (by assumption) hz))
      | (go_at_call 15; ((with_reducible refine (hl.out _).mono ?_); rintro e wz ⟨rfl, hz⟩; have UZ := Up.trans (a := (w3.alloc (.cells #[.int .i64 s, .int .i64 (a + n), .int .i64 l] 23)).drew) (by assumption) hz))
      | (go_at_call 13; ((with_reducible refine (hr.out _).mono ?_); rintro e wz ⟨rfl, hz⟩; have UZ := Up.trans (a := (w3.alloc (.cells #[.int .i64 s, .int .i64 (a + n), .int .i64 l] 23)).drew) (by assumption) hz)))
  all_goals
    have U1 := UW.trans UZ
    go_wp2_with (fail)
    go_quiet (fail)
    go_wp2
    go_ret
    exact ⟨rfl, U1.drewN _⟩

set_option maxHeartbeats 4000000 in
theorem w_ook (s a l n m : Int) (h : rgt s a l) (h1 : 1 ≤ n) (h2 : n ≤ l - a) (h3 : 1 ≤ m) (h4 : m ≤ l - (a + n)) (w : World) :
    Calls Try.prog 4 #[bv s a l, .int .i64 n, .int .i64 m] w fun e w' => e = .returned (.bool true) ∧ Up w w' := by
  have hl := fun w => left_any s a l w
  rw [show lft s a l = l - a from if_pos h] at hl
  have hl := Lib.hid hl
  have hX : rgt s (a + n) l := ⟨h.1, by have := h.2; omega, by omega, h.2.2.2⟩
  have hx := fun w => left_any s (a + n) l w
  rw [show lft s (a + n) l = l - (a + n) from if_pos hX] at hx
  have hx := Lib.hid hx
  have hr := fun w => right_any s (a + n) l w
  rw [show rgb s (a + n) l = true from decide_eq_true hX] at hr
  have hr := Lib.hid hr
  have ht := Lib.hid (take_ok s a l n ⟨h, h1, h2⟩)
  have b0 : 0 ≤ a := h.2.1
  have b1 : l ≤ 4096 := h.2.2.2
  have b2 : a + n ≤ l := by omega
  have d1 : (l - (a + n) != l - a - n) = false := by rw [show l - (a + n) = l - a - n by omega]; exact bne_self_eq_false _
  have d2 : (l - (a + n) != IntKind.i64.wrap (l - a - n)) = false := by rw [show IntKind.i64.wrap (l - a - n) = l - (a + n) by rw [IntKind.wrap_i64]; omega]; exact bne_self_eq_false _
  have hy := fun w => left_any s (a + n + m) l w
  rw [show lft s (a + n + m) l = l - (a + n + m) from if_pos ⟨h.1, by omega, by omega, h.2.2.2⟩] at hy
  have hy := Lib.hid hy
  have e3 : adr s (a + n) = adr s a + n := by unfold adr; omega
  have e4 : 0 ≤ adr s a + n := by unfold adr; have := h.1; omega
  have e5 : adr s a + n < 18446744073709551616 := by unfold adr; have := h.1; omega
  have w1 : IntKind.u64.wrap n = n := by rw [IntKind.wrap_u64]; omega
  have w2 : IntKind.u64.wrap (adr s a + n) = adr s (a + n) := by rw [IntKind.wrap_u64, e3]; omega
  have q1 : (adr s (a + n) == IntKind.u64.wrap (adr s a + IntKind.u64.wrap n)) = true := by rw [w1, w2]; exact beq_self_eq_true _
  have q2 : (adr s (a + n) == IntKind.u64.wrap (adr s a + n)) = true := by rw [w2]; exact beq_self_eq_true _
  have q3 : (adr s (a + n) == adr s a + n) = true := by rw [e3]; exact beq_self_eq_true _
  have q4 : (l - (a + n + m) == IntKind.i64.wrap (l - (a + n) - m)) = true := by rw [show IntKind.i64.wrap (l - (a + n) - m) = l - (a + n + m) by rw [IntKind.wrap_i64]; omega]; exact beq_self_eq_true _
  have q5 : (l - (a + n + m) == l - (a + n) - m) = true := by rw [show l - (a + n) - m = l - (a + n + m) by omega]; exact beq_self_eq_true _
  clear e3 e4 e5 w1 w2
  have hu := Lib.hid (take_ok s (a + n) l m ⟨hX, h3, h4⟩)
  clear hX h
  go_enter Try.func4, Try.ntmps4
  go_wp2_with (fail)
  refine (shown_any _).mono ?_
  rintro e w1 ⟨rfl, k1⟩
  have A := (Blk.new w 23 #[.int .i64 s, .int .i64 a, .int .i64 l]).up k1
  have U := ((Up.refl w).alloc (.cells #[.int .i64 s, .int .i64 a, .int .i64 l] 23)).trans k1
  clear k1
  have Ac := A.cell
  have Af := A.frozen
  have Al := A.lt
  go_wp2_with (fail)
  refine (ht.out _).mono ?_
  rintro e w2 ⟨rfl, k2⟩
  replace A := A.up k2
  replace U := U.trans k2
  clear Ac Af Al
  clear k2
  have Ac := A.cell
  have Af := A.frozen
  have Al := A.lt
  go_wp2_with (fail)
  refine (hu.out _).mono ?_
  rintro e w3 ⟨rfl, k3⟩
  replace A := (A.alloc (.cells #[.int .i64 s, .int .i64 (a + n), .int .i64 l] 23)).up k3
  have N := (Blk.new w2 23 #[.int .i64 s, .int .i64 (a + n), .int .i64 l]).up k3
  replace U := (U.alloc (.cells #[.int .i64 s, .int .i64 (a + n), .int .i64 l] 23)).trans k3
  clear Ac Af Al
  clear k3
  have Ac := A.cell
  have Af := A.frozen
  have Al := A.lt
  have Nc := N.cell
  have Nf := N.frozen
  have Nl := N.lt
  have A0 := (A.alloc (.cells #[.int .i64 s, .int .i64 (a + n + m), .int .i64 l] 23)).drew
  have N0 := (N.alloc (.cells #[.int .i64 s, .int .i64 (a + n + m), .int .i64 l] 23)).drew
  have Y0 := (Blk.new w3 23 #[.int .i64 s, .int .i64 (a + n + m), .int .i64 l]).drew
  have UW := (U.alloc (.cells #[.int .i64 s, .int .i64 (a + n + m), .int .i64 l] 23)).drew
  have U0 := Up.refl (w3.alloc (.cells #[.int .i64 s, .int .i64 (a + n + m), .int .i64 l] 23)).drew
  clear A Ac Af Al N Nc Nf Nl U
  go_wp2_with (fail)
  go_region_held3 (fun w' => (∀ i, w'.cell? ⟨w.heap.size, i, none⟩ = (#[.int .i64 s, .int .i64 a, .int .i64 l] : Array Value)[i]?) ∧ (∀ i, w'.cell? ⟨w2.heap.size, i, none⟩ = (#[.int .i64 s, .int .i64 (a + n), .int .i64 l] : Array Value)[i]?))
    (exact ⟨fun i => (Blk.up A0 (by assumption)).cell i, fun i => (Blk.up N0 (by assumption)).cell i⟩)
    (first
      | (go_at_call 15; ((with_reducible refine (hx.out _).mono ?_); rintro e wz ⟨rfl, hz⟩; have UZ := Up.trans (a := (w3.alloc (.cells #[.int .i64 s, .int .i64 (a + n + m), .int .i64 l] 23)).drew) (by assumption) hz))
      | (go_at_call 15; ((with_reducible refine (hl.out _).mono ?_); rintro e wz ⟨rfl, hz⟩; have UZ := Up.trans (a := (w3.alloc (.cells #[.int .i64 s, .int .i64 (a + n + m), .int .i64 l] 23)).drew) (by assumption) hz))
      | (go_at_call 13; ((with_reducible refine (hr.out _).mono ?_); rintro e wz ⟨rfl, hz⟩; have UZ := Up.trans (a := (w3.alloc (.cells #[.int .i64 s, .int .i64 (a + n + m), .int .i64 l] 23)).drew) (by assumption) hz)))
  all_goals
    have N1 := N0.up UZ
    have Y1 := Y0.up UZ
    have U1 := UW.trans UZ
    go_wp2_with (fail)
    have N2 := N1.drew
    have Y2 := Y1.drew
    have U2 := U1.drew
    have U3 := Up.refl wz.drew
    clear N1 Y1 U1 UZ U0 UW A0 N0 Y0
    go_region_held3 (fun w' => (∀ i, w'.cell? ⟨w3.heap.size, i, none⟩ = (#[.int .i64 s, .int .i64 (a + n + m), .int .i64 l] : Array Value)[i]?) ∧ (∀ i, w'.cell? ⟨w2.heap.size, i, none⟩ = (#[.int .i64 s, .int .i64 (a + n), .int .i64 l] : Array Value)[i]?))
      (exact ⟨fun i => (Blk.up Y2 (by assumption)).cell i, fun i => (Blk.up N2 (by assumption)).cell i⟩)
      (first
      | (go_at_call 15; ((with_reducible refine (hy.out _).mono ?_); rintro e wy ⟨rfl, hz⟩; have UV := Up.trans (a := wz.drew) (by assumption) hz))
      | (go_at_call 15; ((with_reducible refine (hx.out _).mono ?_); rintro e wy ⟨rfl, hz⟩; have UV := Up.trans (a := wz.drew) (by assumption) hz)))
    all_goals
      go_wp2
      go_ret
      exact ⟨rfl, U2.trans UV⟩

theorem walk (s a l n m : Int) (hs : I64 s) (ha : I64 a) (hl : I64 l) (hn : I64 n) (hm : I64 m) (w : World) :
    Calls Try.prog 4 #[bv s a l, .int .i64 n, .int .i64 m] w fun e w' => e = .returned (.bool true) ∧ Up w w' := by
  by_cases h : rgt s a l ∧ 1 ≤ n
  · obtain ⟨h, h1⟩ := h
    by_cases h2 : n ≤ l - a
    · by_cases h3 : m < 1
      · exact w_oarg s a l n m h h1 h2 h3 w
      · by_cases h4 : m ≤ l - (a + n)
        · exact w_ook s a l n m h h1 h2 (by omega) h4 w
        · exact w_ofull s a l n m h h1 h2 (by omega) (by omega) w
    · exact w_full s a l n m h h1 (by omega) w
  · exact w_arg s a l n m h w

set_option maxRecDepth 100000 in
theorem lifted (os : Os) (started : os.Started) (H : Type) (enc : TypeId × Value → H) :
    ReturnsInHanded {} Try.checked os 4 .any (Rows.bumpRowSpec.pre6 enc Try.prog Try.f4 Rows.bumpRowRow.domain false) (Rows.bumpRowSpec.post enc Try.prog Try.f4 false true false false) := by
  refine returnsInHanded_of_change (C := Try.checked) own started (by kernel_rfl) Try.func4
    (ChangeSpec.witness6 (enc := enc) (C := Try.checked) false ⟨#[], #[.agg #[.int .i64 0, .int .i64 0, .int .i64 0], .int .i64 0, .int .i64 0], []⟩ 8 (by kernel_rfl) (by kernel_rfl) (by kernel_rfl) (by kernel_rfl)) ?_
  intro W base args ds gs before hval0 hW hcnd _
  have hval : ∀ (j : Nat) t v, Try.f4.params[j]? = some t → args[j]? = some v → Value.okWide Try.prog W .any base t v := hval0
  have hW' := hW
  obtain ⟨p, q, hA0, hV, rfl, hfz, hnd⟩ := hW
  have hA : DataW.TrodAll enc Try.prog W 0 (fun _ => true) true Try.f4.params.toList args.toList ds p := hA0
  rw [Try.params4] at hA hval
  obtain ⟨v0, vs0, d0, ds0, p0, q0, hargs, rfl, rfl, h0, r0⟩ := trodAll_cons hA
  obtain ⟨v1, vs1, d1, ds1, p1, q1, rfl, rfl, rfl, h1, r1⟩ := trodAll_cons r0
  obtain ⟨v2, vs2, d2, ds2, p2, q2, rfl, rfl, rfl, h2, r2⟩ := trodAll_cons r1
  obtain ⟨rfl, rfl, rfl⟩ := trodAll_nil r2
  obtain rfl : args = #[v0, v1, v2] := by cases args; simp_all
  obtain ⟨rfl, rfl⟩ := trodVars_none hV
  obtain ⟨s0, a0, l0, rfl, rfl, rfl, ws0, wa0, wl0⟩ := bump_open (hval 0 23 v0 rfl rfl) h0
  obtain ⟨n1, rfl, rfl, rfl, w1⟩ := open_int Try.underlying3 (hval 1 3 v1 rfl rfl) h1
  obtain ⟨n2, rfl, rfl, rfl, w2⟩ := open_int Try.underlying3 (hval 2 3 v2 rfl rfl) h2
  clear hA0 hval0
  simp only [List.append_nil] at hW'
  refine (walk s0 a0 l0 n1 n2 (i64_of_wf ws0) (i64_of_wf wa0) (i64_of_wf wl0) (i64_of_wf w1) (i64_of_wf w2) W).mono fun e W' ⟨he, hg⟩ => ?_
  subst he
  exact ⟨_, rfl, post_below (pa := []) (pv := []) hW' (fun _ _ _ => (trodAll_cons_mk (shut_bool Try.underlying4 _) trodAll_mk0)) (fun sp _ => (trodAll_cons_mk (shut_bump ws0 wa0 wl0) (trodAll_cons_mk (shut_int Try.underlying3 w1) (trodAll_cons_mk (shut_int Try.underlying3 w2) trodAll_mk0)))) (fun _ _ => rfl) rfl
    hg (ok_one (by kernel_rfl) rfl (okWide_bool_mk Try.underlying4 _))⟩

theorem over : Rows.bumpRowRow.holds Try.pinned (OpenSpec.ofChange Rows.bumpRowSpec) :=
  OpenClaim.holds_of_wide 4 Try.f4 rfl rfl rfl rfl rfl rfl rfl ⟨rfl, rfl, rfl, rfl, rfl⟩ rfl rfl rfl rfl rfl (by kernel_rfl) Try.func4 (by kernel_rfl)
    (of_decide_eq_true (by kernel_rfl)) (by unfold Func.isWrapper; first | (rw [if_pos (by decide +kernel)]; kernel_rfl) | (rw [if_neg (by decide +kernel)]; exact ⟨rfl, rfl⟩))
    (fun os started H enc _ => lifted os started H enc)

theorem proved : Rows.BumpRowSaid :=
  over
#print axioms proved
end Go.Proofs.Ytgjalgfdpecbpaa.LBumpRow
