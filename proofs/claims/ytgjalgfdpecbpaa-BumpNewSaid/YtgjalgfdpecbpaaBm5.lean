/- Package bump: the document's Most; all told by functions; the example; Bumps compared; what is handed in, opened. -/
import Derived.Test.YtgjalgfdpecbpaaBm4
import Derived.Lib.SmallJoins
namespace Go.Proofs.Ytgjalgfdpecbpaa
open Go.Joins Go.ChangeShapes Go.WideShapes Go.ChangeAt Go.RowKit Go.Deep
set_option linter.unusedVariables false
set_option linter.unusedSimpArgs false

theorem rtake_any (s a l n : Int) (w : World) :
    Calls Try.prog 10 #[bv s a l, .int .i64 n] w fun e w' => e = .returned (.tuple #[bv s (tka s a l n) l, .int .u64 (tkw s a l n), .int .i64 (tke s a l n)]) ∧ Up w w' := by
  unfold tka tkw tke
  by_cases h : may s a l n
  · rw [if_pos h, if_pos h, if_pos h]; exact rtake_ok s a l n h w
  · rw [if_neg h, if_neg h, if_neg h]
    by_cases c : rgt s a l ∧ 1 ≤ n
    · rw [if_pos c]; exact rtake_full s a l n c.1 c.2 (by have := fun q => h ⟨c.1, c.2, q⟩; rcases Int.lt_or_le (l - a) n with q | q; exact q; exact absurd q this) w
    · rw [if_neg c]; exact rtake_arg s a l n c w

set_option maxHeartbeats 1000000 in
theorem rmost_ok (s a l n : Int) (h : may s a l n) (w : World) :
    Calls Try.prog 12 #[bv s a l, .int .i64 n] w fun e w' => e = .returned (.tuple #[bv s (a + n) l, .int .u64 (adr s a), .int .i64 n]) ∧ Up w w' := by
  have hl := Lib.hid (rleft s a l)
  rw [show lft s a l = l - a from if_pos h.1] at hl
  have ht := Lib.hid (rtake_ok s a l n h)
  have d : decide (l - a < n) = false := decide_eq_false (by have := h.2.2; omega)
  clear h
  go_enter Try.func12, Try.ntmps12
  go_wp2_with (fail)
  refine (hl.out _).mono ?_
  rintro e w1 ⟨rfl, k1⟩
  have A := ((Blk.new w 23 #[.int .i64 s, .int .i64 a, .int .i64 l]).alloc (.cells #[.int .i64 0, .int .i64 0, .int .i64 0] 23)).up k1
  have R := (Blk.new' (w.alloc (.cells #[.int .i64 s, .int .i64 a, .int .i64 l] 23)) (g := w.heap.size + 1) (by simp) 23 #[.int .i64 0, .int .i64 0, .int .i64 0]).up k1
  have U := (((Up.refl w).alloc (.cells #[.int .i64 s, .int .i64 a, .int .i64 l] 23)).alloc (.cells #[.int .i64 0, .int .i64 0, .int .i64 0] 23)).trans k1
  clear k1
  have Ac := A.cell
  go_wp2_with (fail)
  refine (ht.out _).mono ?_
  rintro e w3 ⟨rfl, k3⟩
  replace A := A.up k3
  replace R := R.up k3
  replace U := U.trans k3
  clear k3 Ac
  have Ac := A.cell
  have Al := A.lt
  have Rc := R.cell
  have Rf := R.frozen
  have Rl := R.lt
  go_wp2_with (fail)
  (try simp only [Exit.inBlock, Exit.then])
  refine bodyPost_ret (ret_bump rfl _ _ _ _ _ _ _ _ rfl ((R.set3 _ _ _).alloc _) rfl rfl) rfl ?_
  exact ⟨rfl, (U.set3 (by omega) _ _ _).alloc _⟩

set_option maxHeartbeats 1000000 in
theorem rmost_all (s a l n : Int) (h : rgt s a l) (h2 : l - a < n) (h3 : 1 ≤ l - a) (w : World) :
    Calls Try.prog 12 #[bv s a l, .int .i64 n] w fun e w' => e = .returned (.tuple #[bv s (a + (l - a)) l, .int .u64 (adr s a), .int .i64 (l - a)]) ∧ Up w w' := by
  have hl := Lib.hid (rleft s a l)
  rw [show lft s a l = l - a from if_pos h] at hl
  have ht := Lib.hid (rtake_ok s a l (l - a) ⟨h, h3, Int.le_refl _⟩)
  have d : decide (l - a < n) = true := decide_eq_true h2
  clear h h2 h3
  obtain ⟨m, hmm⟩ : ∃ m, l - a = m := ⟨_, rfl⟩
  rw [hmm] at hl ht d
  try rw [hmm]
  clear hmm
  go_enter Try.func12, Try.ntmps12
  go_wp2_with (fail)
  refine (hl.out _).mono ?_
  rintro e w1 ⟨rfl, k1⟩
  have A := ((Blk.new w 23 #[.int .i64 s, .int .i64 a, .int .i64 l]).alloc (.cells #[.int .i64 0, .int .i64 0, .int .i64 0] 23)).up k1
  have R := (Blk.new' (w.alloc (.cells #[.int .i64 s, .int .i64 a, .int .i64 l] 23)) (g := w.heap.size + 1) (by simp) 23 #[.int .i64 0, .int .i64 0, .int .i64 0]).up k1
  have U := (((Up.refl w).alloc (.cells #[.int .i64 s, .int .i64 a, .int .i64 l] 23)).alloc (.cells #[.int .i64 0, .int .i64 0, .int .i64 0] 23)).trans k1
  clear k1
  have Ac := A.cell
  go_wp2_with (fail)
  refine (hl.out _).mono ?_
  rintro e w2 ⟨rfl, k2⟩
  replace A := A.up k2
  replace R := R.up k2
  replace U := U.trans k2
  clear k2 Ac
  have Ac := A.cell
  go_wp2_with (fail)
  refine (ht.out _).mono ?_
  rintro e w3 ⟨rfl, k3⟩
  replace A := A.up k3
  replace R := R.up k3
  replace U := U.trans k3
  clear k3 Ac
  have Ac := A.cell
  have Al := A.lt
  have Rc := R.cell
  have Rf := R.frozen
  have Rl := R.lt
  go_wp2_with (fail)
  (try simp only [Exit.inBlock, Exit.then])
  refine bodyPost_ret (ret_bump rfl _ _ _ _ _ _ _ _ rfl ((R.set3 _ _ _).alloc _) rfl rfl) rfl ?_
  exact ⟨rfl, (U.set3 (by omega) _ _ _).alloc _⟩

set_option maxHeartbeats 1000000 in
theorem rmost_nil (s a l n : Int) (h : rgt s a l) (h2 : l - a < n) (h3 : l - a < 1) (w : World) :
    Calls Try.prog 12 #[bv s a l, .int .i64 n] w fun e w' => e = .returned (.tuple #[bv s a l, .int .u64 0, .int .i64 0]) ∧ Up w w' := by
  have hl := Lib.hid (rleft s a l)
  rw [show lft s a l = l - a from if_pos h] at hl
  have ht := Lib.hid (rtake_arg s a l (l - a) (fun k => by omega))
  have d : decide (l - a < n) = true := decide_eq_true h2
  clear h h2 h3
  obtain ⟨m, hmm⟩ : ∃ m, l - a = m := ⟨_, rfl⟩
  rw [hmm] at hl ht d
  try rw [hmm]
  clear hmm
  go_enter Try.func12, Try.ntmps12
  go_wp2_with (fail)
  refine (hl.out _).mono ?_
  rintro e w1 ⟨rfl, k1⟩
  have A := ((Blk.new w 23 #[.int .i64 s, .int .i64 a, .int .i64 l]).alloc (.cells #[.int .i64 0, .int .i64 0, .int .i64 0] 23)).up k1
  have R := (Blk.new' (w.alloc (.cells #[.int .i64 s, .int .i64 a, .int .i64 l] 23)) (g := w.heap.size + 1) (by simp) 23 #[.int .i64 0, .int .i64 0, .int .i64 0]).up k1
  have U := (((Up.refl w).alloc (.cells #[.int .i64 s, .int .i64 a, .int .i64 l] 23)).alloc (.cells #[.int .i64 0, .int .i64 0, .int .i64 0] 23)).trans k1
  clear k1
  have Ac := A.cell
  go_wp2_with (fail)
  refine (hl.out _).mono ?_
  rintro e w2 ⟨rfl, k2⟩
  replace A := A.up k2
  replace R := R.up k2
  replace U := U.trans k2
  clear k2 Ac
  have Ac := A.cell
  go_wp2_with (fail)
  refine (ht.out _).mono ?_
  rintro e w3 ⟨rfl, k3⟩
  replace A := A.up k3
  replace R := R.up k3
  replace U := U.trans k3
  clear k3 Ac
  have Ac := A.cell
  have Al := A.lt
  have Rc := R.cell
  have Rf := R.frozen
  have Rl := R.lt
  go_wp2_with (fail)
  (try simp only [Exit.inBlock, Exit.then])
  refine bodyPost_ret (ret_bump rfl _ _ _ _ _ _ _ _ rfl ((R.set3 _ _ _).alloc _) rfl rfl) rfl ?_
  exact ⟨rfl, (U.set3 (by omega) _ _ _).alloc _⟩

set_option maxHeartbeats 1000000 in
theorem rmost_bad (s a l n : Int) (h : ¬ rgt s a l) (h2 : 0 < n) (w : World) :
    Calls Try.prog 12 #[bv s a l, .int .i64 n] w fun e w' => e = .returned (.tuple #[bv s a l, .int .u64 0, .int .i64 0]) ∧ Up w w' := by
  have hl := Lib.hid (rleft s a l)
  rw [show lft s a l = 0 from if_neg h] at hl
  have ht := Lib.hid (rtake_arg s a l 0 (fun k => h k.1))
  have d : decide (0 < n) = true := decide_eq_true h2
  clear h
  go_enter Try.func12, Try.ntmps12
  go_wp2_with (fail)
  refine (hl.out _).mono ?_
  rintro e w1 ⟨rfl, k1⟩
  have A := ((Blk.new w 23 #[.int .i64 s, .int .i64 a, .int .i64 l]).alloc (.cells #[.int .i64 0, .int .i64 0, .int .i64 0] 23)).up k1
  have R := (Blk.new' (w.alloc (.cells #[.int .i64 s, .int .i64 a, .int .i64 l] 23)) (g := w.heap.size + 1) (by simp) 23 #[.int .i64 0, .int .i64 0, .int .i64 0]).up k1
  have U := (((Up.refl w).alloc (.cells #[.int .i64 s, .int .i64 a, .int .i64 l] 23)).alloc (.cells #[.int .i64 0, .int .i64 0, .int .i64 0] 23)).trans k1
  clear k1
  have Ac := A.cell
  go_wp2_with (fail)
  refine (hl.out _).mono ?_
  rintro e w2 ⟨rfl, k2⟩
  replace A := A.up k2
  replace R := R.up k2
  replace U := U.trans k2
  clear k2 Ac
  have Ac := A.cell
  go_wp2_with (fail)
  refine (ht.out _).mono ?_
  rintro e w3 ⟨rfl, k3⟩
  replace A := A.up k3
  replace R := R.up k3
  replace U := U.trans k3
  clear k3 Ac
  have Ac := A.cell
  have Al := A.lt
  have Rc := R.cell
  have Rf := R.frozen
  have Rl := R.lt
  go_wp2_with (fail)
  (try simp only [Exit.inBlock, Exit.then])
  refine bodyPost_ret (ret_bump rfl _ _ _ _ _ _ _ _ rfl ((R.set3 _ _ _).alloc _) rfl rfl) rfl ?_
  exact ⟨rfl, (U.set3 (by omega) _ _ _).alloc _⟩

set_option maxHeartbeats 1000000 in
theorem rmost_few (s a l n : Int) (h : ¬ rgt s a l) (h2 : ¬ 0 < n) (w : World) :
    Calls Try.prog 12 #[bv s a l, .int .i64 n] w fun e w' => e = .returned (.tuple #[bv s a l, .int .u64 0, .int .i64 0]) ∧ Up w w' := by
  have hl := Lib.hid (rleft s a l)
  rw [show lft s a l = 0 from if_neg h] at hl
  have ht := Lib.hid (rtake_arg s a l n (fun k => h k.1))
  have d : decide (0 < n) = false := decide_eq_false h2
  clear h h2
  go_enter Try.func12, Try.ntmps12
  go_wp2_with (fail)
  refine (hl.out _).mono ?_
  rintro e w1 ⟨rfl, k1⟩
  have A := ((Blk.new w 23 #[.int .i64 s, .int .i64 a, .int .i64 l]).alloc (.cells #[.int .i64 0, .int .i64 0, .int .i64 0] 23)).up k1
  have R := (Blk.new' (w.alloc (.cells #[.int .i64 s, .int .i64 a, .int .i64 l] 23)) (g := w.heap.size + 1) (by simp) 23 #[.int .i64 0, .int .i64 0, .int .i64 0]).up k1
  have U := (((Up.refl w).alloc (.cells #[.int .i64 s, .int .i64 a, .int .i64 l] 23)).alloc (.cells #[.int .i64 0, .int .i64 0, .int .i64 0] 23)).trans k1
  clear k1
  have Ac := A.cell
  go_wp2_with (fail)
  refine (ht.out _).mono ?_
  rintro e w3 ⟨rfl, k3⟩
  replace A := A.up k3
  replace R := R.up k3
  replace U := U.trans k3
  clear k3 Ac
  have Ac := A.cell
  have Al := A.lt
  have Rc := R.cell
  have Rf := R.frozen
  have Rl := R.lt
  go_wp2_with (fail)
  (try simp only [Exit.inBlock, Exit.then])
  refine bodyPost_ret (ret_bump rfl _ _ _ _ _ _ _ _ rfl ((R.set3 _ _ _).alloc _) rfl rfl) rfl ?_
  exact ⟨rfl, (U.set3 (by omega) _ _ _).alloc _⟩

set_option maxHeartbeats 1000000 in
theorem rmost_less (s a l n : Int) (h : rgt s a l) (h2 : n < 1) (w : World) :
    Calls Try.prog 12 #[bv s a l, .int .i64 n] w fun e w' => e = .returned (.tuple #[bv s a l, .int .u64 0, .int .i64 0]) ∧ Up w w' := by
  have hl := Lib.hid (rleft s a l)
  rw [show lft s a l = l - a from if_pos h] at hl
  have ht := Lib.hid (rtake_arg s a l n (fun k => by omega))
  have d : decide (l - a < n) = false := decide_eq_false (by have := h.2; omega)
  clear h h2
  go_enter Try.func12, Try.ntmps12
  go_wp2_with (fail)
  refine (hl.out _).mono ?_
  rintro e w1 ⟨rfl, k1⟩
  have A := ((Blk.new w 23 #[.int .i64 s, .int .i64 a, .int .i64 l]).alloc (.cells #[.int .i64 0, .int .i64 0, .int .i64 0] 23)).up k1
  have R := (Blk.new' (w.alloc (.cells #[.int .i64 s, .int .i64 a, .int .i64 l] 23)) (g := w.heap.size + 1) (by simp) 23 #[.int .i64 0, .int .i64 0, .int .i64 0]).up k1
  have U := (((Up.refl w).alloc (.cells #[.int .i64 s, .int .i64 a, .int .i64 l] 23)).alloc (.cells #[.int .i64 0, .int .i64 0, .int .i64 0] 23)).trans k1
  clear k1
  have Ac := A.cell
  go_wp2_with (fail)
  refine (ht.out _).mono ?_
  rintro e w3 ⟨rfl, k3⟩
  replace A := A.up k3
  replace R := R.up k3
  replace U := U.trans k3
  clear k3 Ac
  have Ac := A.cell
  have Al := A.lt
  have Rc := R.cell
  have Rf := R.frozen
  have Rl := R.lt
  go_wp2_with (fail)
  (try simp only [Exit.inBlock, Exit.then])
  refine bodyPost_ret (ret_bump rfl _ _ _ _ _ _ _ _ rfl ((R.set3 _ _ _).alloc _) rfl rfl) rfl ?_
  exact ⟨rfl, (U.set3 (by omega) _ _ _).alloc _⟩

/-! ### What is taken at most, told by functions -/
/-- Are all taken? -/
def all_ (s a l n : Int) : Prop := rgt s a l ∧ l - a < n ∧ 1 ≤ l - a
instance decAll_ (s a l n : Int) : Decidable (all_ s a l n) := by unfold all_; infer_instance
def msa (s a l n : Int) : Int := if may s a l n then a + n else if all_ s a l n then a + (l - a) else a
def msw (s a l n : Int) : Int := if may s a l n then adr s a else if all_ s a l n then adr s a else 0
def msk (s a l n : Int) : Int := if may s a l n then n else if all_ s a l n then l - a else 0
theorem most_any (s a l n : Int) (w : World) :
    Calls Try.prog 11 #[bv s a l, .int .i64 n] w fun e w' => e = .returned (.tuple #[bv s (msa s a l n) l, .int .u64 (msw s a l n), .int .i64 (msk s a l n)]) ∧ Up w w' := by
  unfold msa msw msk
  by_cases h : may s a l n
  · rw [if_pos h, if_pos h, if_pos h]; exact most_ok s a l n h w
  · rw [if_neg h, if_neg h, if_neg h]
    by_cases k : all_ s a l n
    · rw [if_pos k, if_pos k, if_pos k]; exact most_all s a l n k.1 (by have := k.2; omega) k.2.1 k.2.2 w
    · rw [if_neg k, if_neg k, if_neg k]
      by_cases c : rgt s a l ∧ 1 ≤ n
      · have h2 : l - a < n := by
          rcases Int.lt_or_le (l - a) n with q | q
          · exact q
          · exact absurd ⟨c.1, c.2, q⟩ h
        have h3 : l - a < 1 := by
          rcases Int.lt_or_le (l - a) 1 with q | q
          · exact q
          · exact absurd ⟨c.1, h2, q⟩ k
        exact most_nil s a l n c.1 c.2 h2 h3 w
      · exact most_arg s a l n c w
theorem rmost_any (s a l n : Int) (w : World) :
    Calls Try.prog 12 #[bv s a l, .int .i64 n] w fun e w' => e = .returned (.tuple #[bv s (msa s a l n) l, .int .u64 (msw s a l n), .int .i64 (msk s a l n)]) ∧ Up w w' := by
  unfold msa msw msk
  by_cases h : may s a l n
  · rw [if_pos h, if_pos h, if_pos h]; exact rmost_ok s a l n h w
  · rw [if_neg h, if_neg h, if_neg h]
    by_cases k : all_ s a l n
    · rw [if_pos k, if_pos k, if_pos k]; exact rmost_all s a l n k.1 k.2.1 k.2.2 w
    · rw [if_neg k, if_neg k, if_neg k]
      by_cases c : rgt s a l
      · by_cases c1 : 1 ≤ n
        · have h2 : l - a < n := by
            rcases Int.lt_or_le (l - a) n with q | q
            · exact q
            · exact absurd ⟨c, c1, q⟩ h
          have h3 : l - a < 1 := by
            rcases Int.lt_or_le (l - a) 1 with q | q
            · exact q
            · exact absurd ⟨c, h2, q⟩ k
          exact rmost_nil s a l n c h2 h3 w
        · exact rmost_less s a l n c (by omega) w
      · by_cases c1 : 0 < n
        · exact rmost_bad s a l n c c1 w
        · exact rmost_few s a l n c c1 w

/-! ### The example -/
set_option maxHeartbeats 1000000 in
theorem shown_any (w : World) : Calls Try.prog 8 #[] w fun e w' => e = .returned (.bool true) ∧ Up w w' := by
  have c1 := fun w => take_ok 1 0 10 4 (by decide) w
  rw [show adr 1 0 = 8589934592 from rfl, show (0 : Int) + 4 = 4 from rfl] at c1
  have c1 := Lib.hid c1
  have c2 := Lib.hid (fun w => take_full 1 4 10 7 (by decide) (by decide) (by decide) w)
  have c0 := fun w => new_any 1 10 w
  rw [show nws 1 = 1 from rfl, show nwl 10 = 10 from rfl] at c0
  have c0 := Lib.hid c0
  go_enter Try.func8, Try.ntmps8
  go_wp2_with (fail)
  refine (c0.out _).mono ?_
  rintro e w1 ⟨rfl, U⟩
  go_wp2_with (fail)
  refine (c1.out _).mono ?_
  rintro e w2 ⟨rfl, k2⟩
  replace U := U.trans k2
  have A := Blk.new w2 23 #[.int .i64 1, .int .i64 4, .int .i64 10]
  clear k2
  go_wp2_with (fail)
  refine (c2.out _).mono ?_
  rintro e w3 ⟨rfl, k3⟩
  replace A := A.up k3
  replace U := (U.alloc (.cells #[.int .i64 1, .int .i64 4, .int .i64 10] 23)).trans k3
  clear k3
  have Ac := A.cell
  have Al := A.lt
  go_wp2
  go_ret
  exact ⟨rfl, U.alloc _⟩

/-- Are two the same? -/
def bsame (s a l s' a' l' : Int) : Bool := s == s' && (a == a' && l == l')
theorem bsame_self (s a l : Int) : bsame s a l s a l = true := by simp [bsame]
theorem eq_bump (s a l s' a' l' : Int) (w : World) : (binOp .eql 23 (bv s a l) (bv s' a' l')).run Try.prog w = .ok (.bool (bsame s a l s' a' l')) w := by
  rw [run_eql_struct, run_equalIn_agg _ _ _ _ _ (by rw [fieldsOf_of Try.underlying23]; exact Try.underlying23) (by kernel_rfl), fieldsOf_of Try.underlying23]
  simp [Op.eqFields, go_sem, bsame]
  by_cases h : s = s' <;> by_cases k : a = a' <;> by_cases j : l = l' <;> simp [h, k, j]
/-- One is the same as itself. -/
theorem eq_self (s a l : Int) (w : World) : (binOp .eql 23 (.agg #[.int .i64 s, .int .i64 a, .int .i64 l]) (.agg #[.int .i64 s, .int .i64 a, .int .i64 l])).run Try.prog w = .ok (.bool true) w := by
  rw [show Value.agg #[.int .i64 s, .int .i64 a, .int .i64 l] = bv s a l from rfl, eq_bump, bsame_self]

theorem cells_bump : Try.prog.cellsOf 23 = 3 := by kernel_rfl
theorem cells_int : Try.prog.cellsOf 3 = 1 := by kernel_rfl
section
variable {H : Type} {enc : TypeId × Value → H} {w : World} {base : Nat} {spare : Nat → Bool} {held : Bool}
theorem bump_open {r : Reach} {b0 : Nat} {v : Value} {d : DataW H} {p : List MemPlace} (hv : Value.okWide Try.prog w r b0 23 v) (h : DataW.Trod enc Try.prog w base spare held 23 v d p) :
    ∃ s a l : Int, v = bv s a l ∧ d = .agg [.lit (.int .i64 s), .lit (.int .i64 a), .lit (.int .i64 l)] ∧ p = [] ∧ (Lit.int .i64 s).wf = true ∧ (Lit.int .i64 a).wf = true ∧ (Lit.int .i64 l).wf = true := by
  obtain ⟨v0, v1, v2, y0, y1, y2, n, rfl, rfl, rfl, h0, h1, h2⟩ := open_agg3 Try.underlying23 (by kernel_rfl) cells_bump hv h
  obtain ⟨n0, e0, rfl, w0⟩ := DataW.trod_int Try.underlying3 h0
  obtain ⟨n1, e1, rfl, w1⟩ := DataW.trod_int Try.underlying3 h1
  obtain ⟨n2, e2, rfl, w2⟩ := DataW.trod_int Try.underlying3 h2
  cases e0; cases e1; cases e2
  exact ⟨n0, n1, n2, rfl, rfl, rfl, w0, w1, w2⟩
theorem shut_bump {s a l : Int} (w0 : (Lit.int .i64 s).wf = true) (w1 : (Lit.int .i64 a).wf = true) (w2 : (Lit.int .i64 l).wf = true) :
    DataW.Trod enc Try.prog w base spare held 23 (bv s a l) (.agg [.lit (.int .i64 s), .lit (.int .i64 a), .lit (.int .i64 l)]) [] :=
  shut_agg3 (y0 := (.lit (.int .i64 s), [])) (y1 := (.lit (.int .i64 a), [])) (y2 := (.lit (.int .i64 l), [])) Try.underlying23 (by kernel_rfl) cells_bump
    ⟨1, trod_int_mk 0 Try.underlying3 w0⟩ ⟨1, trod_int_mk 0 Try.underlying3 w1⟩ ⟨1, trod_int_mk 0 Try.underlying3 w2⟩
end
end Go.Proofs.Ytgjalgfdpecbpaa
