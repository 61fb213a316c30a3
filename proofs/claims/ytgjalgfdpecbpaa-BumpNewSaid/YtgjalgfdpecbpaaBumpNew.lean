/- The statement BumpNew is proved for every input, from contracts of the functions that it calls; no condition is added. -/
import Derived.Test.YtgjalgfdpecbpaaBm5
import Derived.BigQuiet
import Derived.Deep.QuietTactic
import Derived.LoopTactic
namespace Go.Proofs.Ytgjalgfdpecbpaa.LBumpNew
open Go.Joins Go.ChangeShapes Go.WideShapes Go.ChangeAt Go.RowKit Go.Deep
set_option linter.unusedVariables false
set_option linter.unusedSimpArgs false

theorem own : ownKnob Try.prog.godebug = none := by kernel_rfl

set_option maxHeartbeats 4000000 in
theorem w_neg (s x : Int) (h : x < 0) (w : World) :
    Calls Try.prog 6 #[.int .i64 s, .int .i64 x] w fun e w' => e = .returned (.bool true) ∧ Up w w' := by
  have hn := fun w => new_any s x w
  rw [show nwl x = 0 from if_neg (by omega)] at hn
  have hn := Lib.hid hn
  have hsp : nws s = 0 ∨ nws s = 1 := by unfold nws; split <;> omega
  generalize nws s = p at hn hsp
  have hl := fun w => left_any p 0 0 w
  rw [show lft p 0 0 = 0 from (if_pos ⟨hsp, by omega, by omega, by omega⟩).trans rfl] at hl
  have hl := Lib.hid hl
  have d : decide (200 < x) = false := decide_eq_false (by omega)
  clear hsp
  go_enter Try.func6, Try.ntmps6
  go_wp2_with (fail)
  refine (shown_any _).mono ?_
  rintro e w1 ⟨rfl, k1⟩
  have U := k1
  go_wp2_with (fail)
  refine (hn.out _).mono ?_
  rintro e w2 ⟨rfl, k2⟩
  replace U := U.trans k2
  clear k2
  go_wp2_with (fail)
  refine (hl.out _).mono ?_
  rintro e w3 ⟨rfl, k3⟩
  have N := (Blk.new w2 23 #[.int .i64 p, .int .i64 0, .int .i64 0]).up k3
  replace U := (U.alloc (.cells #[.int .i64 p, .int .i64 0, .int .i64 0] 23)).trans k3
  clear k3
  have Nc := N.cell
  have Nf := N.frozen
  have Nl := N.lt
  go_wp2
  go_ret
  exact ⟨rfl, U⟩

set_option maxHeartbeats 4000000 in
theorem w_great (s x : Int) (h : 4096 < x) (w : World) :
    Calls Try.prog 6 #[.int .i64 s, .int .i64 x] w fun e w' => e = .returned (.bool true) ∧ Up w w' := by
  have hn := fun w => new_any s x w
  rw [show nwl x = x from if_pos (by omega)] at hn
  have hn := Lib.hid hn
  have hsp : nws s = 0 ∨ nws s = 1 := by unfold nws; split <;> omega
  generalize nws s = p at hn hsp
  have hr := fun w => right_any p 0 x w
  rw [show rgb p 0 x = false from decide_eq_false (fun k => by have := k.2; omega)] at hr
  have hr := Lib.hid hr
  have d : decide (200 < x) = true := decide_eq_true (by omega)
  have d1 : decide (x < 0) = false := decide_eq_false (by omega)
  clear hsp
  go_enter Try.func6, Try.ntmps6
  go_wp2_with (fail)
  refine (shown_any _).mono ?_
  rintro e w1 ⟨rfl, k1⟩
  have U := k1
  go_wp2_with (fail)
  refine (hn.out _).mono ?_
  rintro e w2 ⟨rfl, k2⟩
  replace U := U.trans k2
  clear k2
  go_wp2_with (fail)
  refine (hr.out _).mono ?_
  rintro e w3 ⟨rfl, k3⟩
  have N := (Blk.new w2 23 #[.int .i64 p, .int .i64 0, .int .i64 x]).up k3
  replace U := (U.alloc (.cells #[.int .i64 p, .int .i64 0, .int .i64 x] 23)).trans k3
  clear k3
  have Nc := N.cell
  have Nf := N.frozen
  have Nl := N.lt
  go_wp2
  go_ret
  exact ⟨rfl, U⟩

set_option maxHeartbeats 4000000 in
theorem w_mid (s x : Int) (h : 200 < x) (h1 : x ≤ 4096) (w : World) :
    Calls Try.prog 6 #[.int .i64 s, .int .i64 x] w fun e w' => e = .returned (.bool true) ∧ Up w w' := by
  have hn := fun w => new_any s x w
  rw [show nwl x = x from if_pos (by omega)] at hn
  have hn := Lib.hid hn
  have hsp : nws s = 0 ∨ nws s = 1 := by unfold nws; split <;> omega
  generalize nws s = p at hn hsp
  have hl := fun w => left_any p 0 x w
  rw [show lft p 0 x = x from (if_pos ⟨hsp, by omega, by omega, by omega⟩).trans (by omega)] at hl
  have hl := Lib.hid hl
  have d1 : decide (x < 0) = false := decide_eq_false (by omega)
  have d2 : decide (4096 < x) = false := decide_eq_false (by omega)
  clear hsp
  go_enter Try.func6, Try.ntmps6
  go_wp2_with (fail)
  refine (shown_any _).mono ?_
  rintro e w1 ⟨rfl, k1⟩
  have U := k1
  go_wp2_with (fail)
  refine (hn.out _).mono ?_
  rintro e w2 ⟨rfl, k2⟩
  replace U := U.trans k2
  clear k2
  go_wp2_with (fail)
  refine (hl.out _).mono ?_
  rintro e w3 ⟨rfl, k3⟩
  have N := (Blk.new w2 23 #[.int .i64 p, .int .i64 0, .int .i64 x]).up k3
  replace U := (U.alloc (.cells #[.int .i64 p, .int .i64 0, .int .i64 x] 23)).trans k3
  clear k3
  have Nc := N.cell
  have Nf := N.frozen
  have Nl := N.lt
  go_wp2
  go_ret
  exact ⟨rfl, U⟩


/-- Behind some rounds. -/
def NwRel (p : Int) (m g : Nat) (wb : World) (i : Value) (wr : World) : Prop := ∃ k : Nat, k ≤ m ∧ i = .int .i64 k ∧ Blk wr g 23 #[.int .i64 p, .int .i64 k, .int .i64 m] ∧ Up wb wr
set_option maxHeartbeats 4000000 in
theorem w_all (s : Int) (m : Nat) (h : m ≤ 200) (w : World) :
    Calls Try.prog 6 #[.int .i64 s, .int .i64 m] w fun e w' => e = .returned (.bool true) ∧ Up w w' := by
  have hn := fun w => new_any s m w
  rw [show nwl m = m from by unfold nwl; split <;> omega] at hn
  have hn := Lib.hid hn
  have hsp : nws s = 0 ∨ nws s = 1 := by unfold nws; split <;> omega
  generalize nws s = p at hn hsp
  go_enter Try.func6, Try.ntmps6
  go_wp2_with (fail)
  refine (shown_any _).mono ?_
  rintro e w1 ⟨rfl, k1⟩
  have U := k1
  go_wp2_with (fail)
  refine (hn.out _).mono ?_
  rintro e w2 ⟨rfl, k2⟩
  replace U := U.trans k2
  clear k2
  have N := Blk.new w2 23 #[.int .i64 p, .int .i64 0, .int .i64 m]
  have UN := U.alloc (.cells #[.int .i64 p, .int .i64 0, .int .i64 m] 23)
  have hg := U.size
  have d1 : decide (200 < (m : Int)) = false := decide_eq_false (by omega)
  have d2 : decide ((m : Int) < 0) = false := decide_eq_false (by omega)
  go_wp2
  go_loopw [7] (fun i wr => NwRel p m w2.heap.size w i wr) (fun i _ => m + 1 - (intOf i).toNat)
  case atStart => exact ⟨0, Nat.zero_le _, rfl, N, UN⟩
  case round =>
    obtain ⟨k, hk, rfl, NR, UR⟩ := hrel
    clear N UN
    have NRc := NR.cell
    have dl : decide ((k : Int) ≤ (m : Int)) = true := decide_eq_true (by omega)
    by_cases hlt : k < m
    · have ht := fun w => take_ok p k m 1 ⟨⟨hsp, by omega, by omega, by omega⟩, by omega, by omega⟩ w
      rw [show (k : Int) + 1 = ((k + 1 : Nat) : Int) by omega] at ht
      have ht := Lib.hid ht
      go_wp2_with (fail)
      refine (ht.out _).mono ?_
      rintro e w3 ⟨rfl, k3⟩
      have N3 := (NR.up k3).alloc (.cells #[.int .i64 p, .int .i64 (k + 1 : Nat), .int .i64 m] 23)
      have U3 := (UR.trans k3).alloc (.cells #[.int .i64 p, .int .i64 (k + 1 : Nat), .int .i64 m] 23)
      have K3 := Blk.new w3 23 #[.int .i64 p, .int .i64 (k + 1 : Nat), .int .i64 m]
      have NU := NR.up k3
      have UK := UR.trans k3
      clear NR NRc k3
      have N3c := NU.cell
      have N3f := NU.frozen
      have N3l := NU.lt
      have e1 : ((k + 1 : Nat) : Int) = (k : Int) + 1 := by omega
      go_wp2
      refine ⟨⟨k + 1, by omega, by rw [e1], by rw [e1]; exact (NU.set3 _ _ _).alloc _, (UK.set3 hg _ _ _).alloc _⟩, ?_⟩
      simp [intOf]
      omega
    · obtain rfl : k = m := by omega
      have ht := Lib.hid (take_full p k k 1 ⟨hsp, by omega, by omega, by omega⟩ (by omega) (by omega))
      have hl := fun w => left_any p k k w
      rw [show lft p k k = 0 from (if_pos ⟨hsp, by omega, by omega, by omega⟩).trans (by omega)] at hl
      have hl := Lib.hid hl
      go_wp2_with (fail)
      refine (ht.out _).mono ?_
      rintro e w3 ⟨rfl, k3⟩
      have N3 := (NR.up k3).alloc (.cells #[.int .i64 p, .int .i64 k, .int .i64 k] 23)
      have U3 := (UR.trans k3).alloc (.cells #[.int .i64 p, .int .i64 k, .int .i64 k] 23)
      have NU := NR.up k3
      clear NR NRc k3
      have N3c := NU.cell
      have N3f := NU.frozen
      have N3l := NU.lt
      go_wp2_with (fail)
      refine (hl.out _).mono ?_
      rintro e w4 ⟨rfl, k4⟩
      go_wp2
      go_ret
      exact ⟨rfl, U3.trans k4⟩

theorem walk (s x : Int) (hs : I64 s) (hx : I64 x) (w : World) :
    Calls Try.prog 6 #[.int .i64 s, .int .i64 x] w fun e w' => e = .returned (.bool true) ∧ Up w w' := by
  by_cases h : x < 0
  · exact w_neg s x h w
  by_cases h1 : x ≤ 200
  · obtain ⟨m, rfl⟩ := Int.eq_ofNat_of_zero_le (show 0 ≤ x by omega)
    exact w_all s m (by omega) w
  by_cases h2 : x ≤ 4096
  · exact w_mid s x (by omega) h2 w
  · exact w_great s x (by omega) w

set_option maxRecDepth 100000 in
theorem lifted (os : Os) (started : os.Started) (H : Type) (enc : TypeId × Value → H) :
    ReturnsInHanded {} Try.checked os 6 .any (Rows.bumpNewSpec.pre6 enc Try.prog Try.f6 Rows.bumpNewRow.domain false) (Rows.bumpNewSpec.post enc Try.prog Try.f6 false true false false) := by
  refine returnsInHanded_of_change (C := Try.checked) own started (by kernel_rfl) Try.func6
    (ChangeSpec.witness6 (enc := enc) (C := Try.checked) false ⟨#[], #[.int .i64 0, .int .i64 0], []⟩ 8 (by kernel_rfl) (by kernel_rfl) (by kernel_rfl) (by kernel_rfl)) ?_
  intro W base args ds gs before hval0 hW hcnd _
  have hval : ∀ (j : Nat) t v, Try.f6.params[j]? = some t → args[j]? = some v → Value.okWide Try.prog W .any base t v := hval0
  have hW' := hW
  obtain ⟨p, q, hA0, hV, rfl, hfz, hnd⟩ := hW
  have hA : DataW.TrodAll enc Try.prog W 0 (fun _ => true) true Try.f6.params.toList args.toList ds p := hA0
  rw [Try.params6] at hA hval
  obtain ⟨v0, vs0, d0, ds0, p0, q0, hargs, rfl, rfl, h0, r0⟩ := trodAll_cons hA
  obtain ⟨v1, vs1, d1, ds1, p1, q1, rfl, rfl, rfl, h1, r1⟩ := trodAll_cons r0
  obtain ⟨rfl, rfl, rfl⟩ := trodAll_nil r1
  obtain rfl : args = #[v0, v1] := by cases args; simp_all
  obtain ⟨rfl, rfl⟩ := trodVars_none hV
  obtain ⟨n0, rfl, rfl, rfl, w0⟩ := open_int Try.underlying3 (hval 0 3 v0 rfl rfl) h0
  obtain ⟨n1, rfl, rfl, rfl, w1⟩ := open_int Try.underlying3 (hval 1 3 v1 rfl rfl) h1
  clear hA0 hval0
  simp only [List.append_nil] at hW'
  refine (walk n0 n1 (i64_of_wf w0) (i64_of_wf w1) W).mono fun e W' ⟨he, hg⟩ => ?_
  subst he
  exact ⟨_, rfl, post_below (pa := []) (pv := []) hW' (fun _ _ _ => (trodAll_cons_mk (shut_bool Try.underlying4 _) trodAll_mk0)) (fun sp _ => (trodAll_cons_mk (shut_int Try.underlying3 w0) (trodAll_cons_mk (shut_int Try.underlying3 w1) trodAll_mk0))) (fun _ _ => rfl) rfl
    hg (ok_one (by kernel_rfl) rfl (okWide_bool_mk Try.underlying4 _))⟩

theorem over : Rows.bumpNewRow.holds Try.pinned (OpenSpec.ofChange Rows.bumpNewSpec) :=
  OpenClaim.holds_of_wide 6 Try.f6 rfl rfl rfl rfl rfl rfl rfl ⟨rfl, rfl, rfl, rfl, rfl⟩ rfl rfl rfl rfl rfl (by kernel_rfl) Try.func6 (by kernel_rfl)
    (of_decide_eq_true (by kernel_rfl)) (by unfold Func.isWrapper; first | (rw [if_pos (by decide +kernel)]; kernel_rfl) | (rw [if_neg (by decide +kernel)]; exact ⟨rfl, rfl⟩))
    (fun os started H enc _ => lifted os started H enc)

theorem proved : Rows.BumpNewSaid :=
  over
#print axioms proved
end Go.Proofs.Ytgjalgfdpecbpaa.LBumpNew
