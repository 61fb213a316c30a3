/- The statement BumpMost is proved for every input, from contracts of the functions that it calls; no condition is added. -/
import Derived.Test.YtgjalgfdpecbpaaBm5
import Derived.BigQuiet
import Derived.Deep.QuietTactic
namespace Go.Proofs.Ytgjalgfdpecbpaa.LBumpMost
open Go.Joins Go.ChangeShapes Go.WideShapes Go.ChangeAt Go.RowKit Go.Deep
set_option linter.unusedVariables false
set_option linter.unusedSimpArgs false

theorem own : ownKnob Try.prog.godebug = none := by kernel_rfl

theorem where_adr (s a : Int) (h : spot s a) (w : World) :
    Calls Try.prog 19 #[.int .u64 (adr s a)] w fun e w' => e = .returned (.tuple #[.int .i64 s, .int .i64 a, .bool true]) ∧ Up w w' := by
  obtain ⟨h0, h1, h2⟩ := h
  have k0 : 0 ≤ adr s a := by unfold adr; omega
  have k1 : adr s a ≤ 18446744073709551615 := by unfold adr; omega
  have := rwhere (adr s a) k0 k1 w
  rw [show whs (adr s a) = s by unfold whs adr; omega, show whp (adr s a) = a by unfold whp adr; rw [if_pos (by omega)]; omega, show whb (adr s a) = true from decide_eq_true (by unfold adr; omega)] at this
  exact this.mono fun e w' ⟨h, k⟩ => ⟨h, by rw [← k]; exact Up.refl _⟩
set_option maxHeartbeats 4000000 in
theorem w_ok (s a l n : Int) (h : rgt s a l) (h1 : 1 ≤ n) (h2 : n ≤ l - a) (w : World) :
    Calls Try.prog 5 #[bv s a l, .int .i64 n] w fun e w' => e = .returned (.bool true) ∧ Up w w' := by
  have hl := fun w => left_any s a l w
  rw [show lft s a l = l - a from if_pos h] at hl
  have hl := Lib.hid hl
  have ht := Lib.hid (most_ok s a l n ⟨h, h1, h2⟩)
  have hw := Lib.hid (where_adr s a ⟨h.1, h.2.1, by have := h.2.2; omega⟩)
  have hx := fun w => left_any s (a + n) l w
  rw [show lft s (a + n) l = l - (a + n) from if_pos ⟨h.1, by have := h.2; omega, by omega, h.2.2.2⟩] at hx
  have hx := Lib.hid hx
  have b0 : 0 ≤ a := h.2.1
  have b1 : l ≤ 4096 := h.2.2.2
  have b2 : a ≤ l := h.2.2.1
  have d0 : (n == 0) = false := beq_eq_false_iff_ne.mpr (by omega)
  have d1 : (l - (a + n) == l - a - n) = true := beq_iff_eq.mpr (by omega)
  clear h
  generalize adr s a = A at ht hw
  go_enter Try.func5, Try.ntmps5
  go_wp2_with (fail)
  refine (shown_any _).mono ?_
  rintro e w1 ⟨rfl, k1⟩
  have A := (Blk.new w 23 #[.int .i64 s, .int .i64 a, .int .i64 l]).up k1
  have U := ((Up.refl w).alloc (.cells #[.int .i64 s, .int .i64 a, .int .i64 l] 23)).trans k1
  clear k1
  have Ac := A.cell
  have Af := A.frozen
  have Al := A.lt
  go_wp2_with (fail)
  refine (ht.out _).mono ?_
  rintro e w2 ⟨rfl, k2⟩
  replace A := A.up k2
  replace U := U.trans k2
  clear Ac Af Al
  clear k2
  have Ac := A.cell
  have Af := A.frozen
  have Al := A.lt
  go_wp2_with (fail)
  refine (hl.out _).mono ?_
  rintro e w3 ⟨rfl, k3⟩
  replace A := (A.alloc (.cells #[.int .i64 s, .int .i64 (a + n), .int .i64 l] 23)).up k3
  have N := (Blk.new w2 23 #[.int .i64 s, .int .i64 (a + n), .int .i64 l]).up k3
  replace U := (U.alloc (.cells #[.int .i64 s, .int .i64 (a + n), .int .i64 l] 23)).trans k3
  clear Ac Af Al
  clear k3
  have Ac := A.cell
  have Af := A.frozen
  have Al := A.lt
  have Nc := N.cell
  have Nf := N.frozen
  have Nl := N.lt
  go_wp2_with (fail)
  refine (hw.out _).mono ?_
  rintro e w4 ⟨rfl, k4⟩
  replace A := A.up k4
  replace N := N.up k4
  replace U := U.trans k4
  clear Ac Af Al Nc Nf Nl
  clear k4
  have Ac := A.cell
  have Af := A.frozen
  have Al := A.lt
  have Nc := N.cell
  have Nf := N.frozen
  have Nl := N.lt
  go_wp2_with (fail)
  refine (hx.out _).mono ?_
  rintro e w5 ⟨rfl, k5⟩
  replace A := A.up k5
  replace N := N.up k5
  replace U := U.trans k5
  clear Ac Af Al Nc Nf Nl
  clear k5
  have Ac := A.cell
  have Af := A.frozen
  have Al := A.lt
  have Nc := N.cell
  have Nf := N.frozen
  have Nl := N.lt
  go_wp2
  go_ret
  exact ⟨rfl, U⟩

set_option maxHeartbeats 4000000 in
theorem w_all (s a l n : Int) (h : rgt s a l) (h1 : 1 ≤ l - a) (h2 : l - a < n) (w : World) :
    Calls Try.prog 5 #[bv s a l, .int .i64 n] w fun e w' => e = .returned (.bool true) ∧ Up w w' := by
  have hl := fun w => left_any s a l w
  rw [show lft s a l = l - a from if_pos h] at hl
  have hl := Lib.hid hl
  have ht := Lib.hid (most_all s a l n h (by omega) h2 h1)
  have hw := Lib.hid (where_adr s a ⟨h.1, h.2.1, by have := h.2.2; omega⟩)
  have hx := fun w => left_any s (a + (l - a)) l w
  rw [show lft s (a + (l - a)) l = 0 from (if_pos ⟨h.1, by have := h.2; omega, by omega, h.2.2.2⟩).trans (by omega)] at hx
  have hx := Lib.hid hx
  have b0 : 0 ≤ a := h.2.1
  have b1 : l ≤ 4096 := h.2.2.2
  have b2 : a ≤ l := h.2.2.1
  have d0 : (l - a == 0) = false := beq_eq_false_iff_ne.mpr (by omega)
  have d2 : (l - a == n) = false := beq_eq_false_iff_ne.mpr (by omega)
  have h3 : l - a ≤ n := by omega
  have h4 : a + (l - a) ≤ 4096 := by omega
  clear h h2
  generalize adr s a = A at ht hw
  go_enter Try.func5, Try.ntmps5
  go_wp2_with (fail)
  refine (shown_any _).mono ?_
  rintro e w1 ⟨rfl, k1⟩
  have A := (Blk.new w 23 #[.int .i64 s, .int .i64 a, .int .i64 l]).up k1
  have U := ((Up.refl w).alloc (.cells #[.int .i64 s, .int .i64 a, .int .i64 l] 23)).trans k1
  clear k1
  have Ac := A.cell
  have Af := A.frozen
  have Al := A.lt
  go_wp2_with (fail)
  refine (ht.out _).mono ?_
  rintro e w2 ⟨rfl, k2⟩
  replace A := A.up k2
  replace U := U.trans k2
  clear Ac Af Al
  clear k2
  have Ac := A.cell
  have Af := A.frozen
  have Al := A.lt
  go_wp2_with (fail)
  refine (hl.out _).mono ?_
  rintro e w3 ⟨rfl, k3⟩
  replace A := (A.alloc (.cells #[.int .i64 s, .int .i64 (a + (l - a)), .int .i64 l] 23)).up k3
  have N := (Blk.new w2 23 #[.int .i64 s, .int .i64 (a + (l - a)), .int .i64 l]).up k3
  replace U := (U.alloc (.cells #[.int .i64 s, .int .i64 (a + (l - a)), .int .i64 l] 23)).trans k3
  clear Ac Af Al
  clear k3
  have Ac := A.cell
  have Af := A.frozen
  have Al := A.lt
  have Nc := N.cell
  have Nf := N.frozen
  have Nl := N.lt
  go_wp2_with (fail)
  refine (hw.out _).mono ?_
  rintro e w4 ⟨rfl, k4⟩
  replace A := A.up k4
  replace N := N.up k4
  replace U := U.trans k4
  clear Ac Af Al Nc Nf Nl
  clear k4
  have Ac := A.cell
  have Af := A.frozen
  have Al := A.lt
  have Nc := N.cell
  have Nf := N.frozen
  have Nl := N.lt
  go_wp2_with (fail)
  refine (hx.out _).mono ?_
  rintro e w5 ⟨rfl, k5⟩
  replace A := A.up k5
  replace N := N.up k5
  replace U := U.trans k5
  clear Ac Af Al Nc Nf Nl
  clear k5
  have Ac := A.cell
  have Af := A.frozen
  have Al := A.lt
  have Nc := N.cell
  have Nf := N.frozen
  have Nl := N.lt
  go_wp2
  go_ret
  exact ⟨rfl, U⟩

set_option maxHeartbeats 4000000 in
theorem w_nil (s a l n : Int) (h : rgt s a l) (h1 : 1 ≤ n) (h2 : l - a = 0) (w : World) :
    Calls Try.prog 5 #[bv s a l, .int .i64 n] w fun e w' => e = .returned (.bool true) ∧ Up w w' := by
  have hl := fun w => left_any s a l w
  rw [show lft s a l = 0 from (if_pos h).trans h2] at hl
  have hl := Lib.hid hl
  have he := eq_self s a l
  have ht := Lib.hid (most_nil s a l n h h1 (by omega) (by omega))
  clear h h1 h2
  go_enter Try.func5, Try.ntmps5
  go_wp2_with (fail)
  refine (shown_any _).mono ?_
  rintro e w1 ⟨rfl, k1⟩
  have A := (Blk.new w 23 #[.int .i64 s, .int .i64 a, .int .i64 l]).up k1
  have U := ((Up.refl w).alloc (.cells #[.int .i64 s, .int .i64 a, .int .i64 l] 23)).trans k1
  clear k1
  have Ac := A.cell
  have Af := A.frozen
  have Al := A.lt
  go_wp2_with (fail)
  refine (ht.out _).mono ?_
  rintro e w2 ⟨rfl, k2⟩
  replace A := A.up k2
  replace U := U.trans k2
  clear Ac Af Al
  clear k2
  have Ac := A.cell
  have Af := A.frozen
  have Al := A.lt
  go_wp2_with (fail)
  refine (hl.out _).mono ?_
  rintro e w3 ⟨rfl, k3⟩
  replace A := (A.alloc (.cells #[.int .i64 s, .int .i64 a, .int .i64 l] 23)).up k3
  have N := (Blk.new w2 23 #[.int .i64 s, .int .i64 a, .int .i64 l]).up k3
  replace U := (U.alloc (.cells #[.int .i64 s, .int .i64 a, .int .i64 l] 23)).trans k3
  clear Ac Af Al
  clear k3
  have Ac := A.cell
  have Af := A.frozen
  have Al := A.lt
  have Nc := N.cell
  have Nf := N.frozen
  have Nl := N.lt
  go_wp2
  go_ret
  exact ⟨rfl, U⟩

set_option maxHeartbeats 4000000 in
theorem w_less (s a l n : Int) (h : rgt s a l) (h1 : n < 1) (w : World) :
    Calls Try.prog 5 #[bv s a l, .int .i64 n] w fun e w' => e = .returned (.bool true) ∧ Up w w' := by
  have hl := fun w => left_any s a l w
  rw [show lft s a l = l - a from if_pos h] at hl
  have hl := Lib.hid hl
  have he := eq_self s a l
  have ht := Lib.hid (most_arg s a l n (fun k => by omega))
  have d : decide (n < 1) = true := decide_eq_true h1
  clear h h1
  go_enter Try.func5, Try.ntmps5
  go_wp2_with (fail)
  refine (shown_any _).mono ?_
  rintro e w1 ⟨rfl, k1⟩
  have A := (Blk.new w 23 #[.int .i64 s, .int .i64 a, .int .i64 l]).up k1
  have U := ((Up.refl w).alloc (.cells #[.int .i64 s, .int .i64 a, .int .i64 l] 23)).trans k1
  clear k1
  have Ac := A.cell
  have Af := A.frozen
  have Al := A.lt
  go_wp2_with (fail)
  refine (ht.out _).mono ?_
  rintro e w2 ⟨rfl, k2⟩
  replace A := A.up k2
  replace U := U.trans k2
  clear Ac Af Al
  clear k2
  have Ac := A.cell
  have Af := A.frozen
  have Al := A.lt
  go_wp2_with (fail)
  refine (hl.out _).mono ?_
  rintro e w3 ⟨rfl, k3⟩
  replace A := (A.alloc (.cells #[.int .i64 s, .int .i64 a, .int .i64 l] 23)).up k3
  have N := (Blk.new w2 23 #[.int .i64 s, .int .i64 a, .int .i64 l]).up k3
  replace U := (U.alloc (.cells #[.int .i64 s, .int .i64 a, .int .i64 l] 23)).trans k3
  clear Ac Af Al
  clear k3
  have Ac := A.cell
  have Af := A.frozen
  have Al := A.lt
  have Nc := N.cell
  have Nf := N.frozen
  have Nl := N.lt
  go_wp2_with (fail)
  all_goals
    go_ret
    exact ⟨rfl, U⟩

set_option maxHeartbeats 4000000 in
theorem w_bad (s a l n : Int) (h : ¬ rgt s a l) (w : World) :
    Calls Try.prog 5 #[bv s a l, .int .i64 n] w fun e w' => e = .returned (.bool true) ∧ Up w w' := by
  have hl := fun w => left_any s a l w
  rw [show lft s a l = 0 from if_neg h] at hl
  have hl := Lib.hid hl
  have he := eq_self s a l
  have ht := Lib.hid (most_arg s a l n (fun k => h k.1))
  clear h
  go_enter Try.func5, Try.ntmps5
  go_wp2_with (fail)
  refine (shown_any _).mono ?_
  rintro e w1 ⟨rfl, k1⟩
  have A := (Blk.new w 23 #[.int .i64 s, .int .i64 a, .int .i64 l]).up k1
  have U := ((Up.refl w).alloc (.cells #[.int .i64 s, .int .i64 a, .int .i64 l] 23)).trans k1
  clear k1
  have Ac := A.cell
  have Af := A.frozen
  have Al := A.lt
  go_wp2_with (fail)
  refine (ht.out _).mono ?_
  rintro e w2 ⟨rfl, k2⟩
  replace A := A.up k2
  replace U := U.trans k2
  clear Ac Af Al
  clear k2
  have Ac := A.cell
  have Af := A.frozen
  have Al := A.lt
  go_wp2_with (fail)
  refine (hl.out _).mono ?_
  rintro e w3 ⟨rfl, k3⟩
  replace A := (A.alloc (.cells #[.int .i64 s, .int .i64 a, .int .i64 l] 23)).up k3
  have N := (Blk.new w2 23 #[.int .i64 s, .int .i64 a, .int .i64 l]).up k3
  replace U := (U.alloc (.cells #[.int .i64 s, .int .i64 a, .int .i64 l] 23)).trans k3
  clear Ac Af Al
  clear k3
  have Ac := A.cell
  have Af := A.frozen
  have Al := A.lt
  have Nc := N.cell
  have Nf := N.frozen
  have Nl := N.lt
  go_wp2
  go_ret
  exact ⟨rfl, U⟩

theorem walk (s a l n : Int) (hs : I64 s) (ha : I64 a) (hl : I64 l) (hn : I64 n) (w : World) :
    Calls Try.prog 5 #[bv s a l, .int .i64 n] w fun e w' => e = .returned (.bool true) ∧ Up w w' := by
  by_cases h : rgt s a l
  · by_cases h1 : 1 ≤ n
    · by_cases h2 : n ≤ l - a
      · exact w_ok s a l n h h1 h2 w
      · by_cases h3 : 1 ≤ l - a
        · exact w_all s a l n h h3 (by omega) w
        · exact w_nil s a l n h h1 (by have := h.2; omega) w
    · exact w_less s a l n h (by omega) w
  · exact w_bad s a l n h w

set_option maxRecDepth 100000 in
theorem lifted (os : Os) (started : os.Started) (H : Type) (enc : TypeId × Value → H) :
    ReturnsInHanded {} Try.checked os 5 .any (Rows.bumpMostSpec.pre6 enc Try.prog Try.f5 Rows.bumpMostRow.domain false) (Rows.bumpMostSpec.post enc Try.prog Try.f5 false true false false) := by
  refine returnsInHanded_of_change (C := Try.checked) own started (by kernel_rfl) Try.func5
    (ChangeSpec.witness6 (enc := enc) (C := Try.checked) false ⟨#[], #[.agg #[.int .i64 0, .int .i64 0, .int .i64 0], .int .i64 0], []⟩ 8 (by kernel_rfl) (by kernel_rfl) (by kernel_rfl) (by kernel_rfl)) ?_
  intro W base args ds gs before hval0 hW hcnd _
  have hval : ∀ (j : Nat) t v, Try.f5.params[j]? = some t → args[j]? = some v → Value.okWide Try.prog W .any base t v := hval0
  have hW' := hW
  obtain ⟨p, q, hA0, hV, rfl, hfz, hnd⟩ := hW
  have hA : DataW.TrodAll enc Try.prog W 0 (fun _ => true) true Try.f5.params.toList args.toList ds p := hA0
  rw [Try.params5] at hA hval
  obtain ⟨v0, vs0, d0, ds0, p0, q0, hargs, rfl, rfl, h0, r0⟩ := trodAll_cons hA
  obtain ⟨v1, vs1, d1, ds1, p1, q1, rfl, rfl, rfl, h1, r1⟩ := trodAll_cons r0
  obtain ⟨rfl, rfl, rfl⟩ := trodAll_nil r1
  obtain rfl : args = #[v0, v1] := by cases args; simp_all
  obtain ⟨rfl, rfl⟩ := trodVars_none hV
  obtain ⟨s0, a0, l0, rfl, rfl, rfl, ws0, wa0, wl0⟩ := bump_open (hval 0 23 v0 rfl rfl) h0
  obtain ⟨n1, rfl, rfl, rfl, w1⟩ := open_int Try.underlying3 (hval 1 3 v1 rfl rfl) h1
  clear hA0 hval0
  simp only [List.append_nil] at hW'
  refine (walk s0 a0 l0 n1 (i64_of_wf ws0) (i64_of_wf wa0) (i64_of_wf wl0) (i64_of_wf w1) W).mono fun e W' ⟨he, hg⟩ => ?_
  subst he
  exact ⟨_, rfl, post_below (pa := []) (pv := []) hW' (fun _ _ _ => (trodAll_cons_mk (shut_bool Try.underlying4 _) trodAll_mk0)) (fun sp _ => (trodAll_cons_mk (shut_bump ws0 wa0 wl0) (trodAll_cons_mk (shut_int Try.underlying3 w1) trodAll_mk0))) (fun _ _ => rfl) rfl
    hg (ok_one (by kernel_rfl) rfl (okWide_bool_mk Try.underlying4 _))⟩

theorem over : Rows.bumpMostRow.holds Try.pinned (OpenSpec.ofChange Rows.bumpMostSpec) :=
  OpenClaim.holds_of_wide 5 Try.f5 rfl rfl rfl rfl rfl rfl rfl ⟨rfl, rfl, rfl, rfl, rfl⟩ rfl rfl rfl rfl rfl (by kernel_rfl) Try.func5 (by kernel_rfl)
    (of_decide_eq_true (by kernel_rfl)) (by unfold Func.isWrapper; first | (rw [if_pos (by decide +kernel)]; kernel_rfl) | (rw [if_neg (by decide +kernel)]; exact ⟨rfl, rfl⟩))
    (fun os started H enc _ => lifted os started H enc)

theorem proved : Rows.BumpMostSaid :=
  over
#print axioms proved
end Go.Proofs.Ytgjalgfdpecbpaa.LBumpMost
