/- The statement HeadBack is proved for every input, from contracts of the functions that it calls; no condition is added. -/
import Derived.Test.YtelchfmfioofmaaHd8
namespace Go.Proofs.Ytelchfmfioofmaa.LHeadBack
open Go.Joins Go.ChangeShapes Go.WideShapes Go.ChangeAt Go.RowKit Go.Deep
set_option linter.unusedVariables false
set_option linter.unusedSimpArgs false

theorem own : ownKnob Try.prog.godebug = none := by kernel_rfl

theorem tg_wrd {t l m : Int} (h0 : 0 ≤ t) (h1 : t ≤ 255) (h2 : 0 ≤ l) (h3 : l ≤ 65535) (h4 : 0 ≤ m) (h5 : m < 65536) : tgw (wrd t l m) = t ∧ lnw (wrd t l m) = l ∧ mpw (wrd t l m) = m := by
  unfold tgw lnw mpw wrd; omega
theorem wrd_tg {a : Int} (h0 : 0 ≤ a) (h1 : a ≤ 18446744073709551615) : wrd (tgw a) (lnw a) (mpw a) = a := by
  unfold tgw lnw mpw wrd; omega

set_option maxHeartbeats 2000000 in
theorem walk (t l m a : Int) (ht : I64 t) (hl : I64 l) (hm : U64 m) (ha : U64 a) (w : World) :
    Calls Try.prog 4 #[hdv t l m, .int .u64 a] w fun e w' => e = .returned (.bool true) ∧ Up w w' := by
  obtain ⟨a0, a1⟩ := ha
  have hm := hm.1
  have hN : ∀ w, (binOp .neq 24 (.agg #[.int .i64 t, .int .i64 l, .int .u64 m]) (.agg #[.int .i64 t, .int .i64 l, .int .u64 m])).run Try.prog w = .ok (.bool false) w := fun w => by rw [ne_head, hsame_self]; rfl
  have hc2 : rte t l m = 0 → ∀ w, Calls Try.prog 11 #[.int .u64 (wrd t l m)] w fun e w' => e = .returned (.tuple #[hdv t l m, .int .i64 0]) ∧ Up w w' := fun h w => by
    obtain ⟨h0, h1, h2, h3, h4, -⟩ := rte_small hm h
    obtain ⟨e1, e2, e3⟩ := tg_wrd (by omega) h1 h2 h3 hm h4
    have hb := wrd_bounds t l m (by omega) h1 h2 h3 hm h4
    exact take_ok _ t l m hb.1 hb.2 e1 e2 e3 h w
  have hc2 := Lib.hid hc2
  have hw := Lib.hid (wrd_tg a0 a1)
  by_cases k : tkb a
  · have c3 := Lib.hid (fun w => take_ok a _ _ _ a0 a1 rfl rfl rfl k w)
    have c4 := fun w => word_ok _ _ _ (mpw_nn a) k w
    rw [hw.out] at c4
    have c4 := Lib.hid c4
    have c5 := Lib.hid (fun w => right_is _ _ _ 0 k w)
    clear k
    by_cases h : rte t l m = 0
    · have c1 := Lib.hid (fun w => word_ok t l m hm h w)
      have c2 := Lib.hid (hc2.out h)
      clear ht hl hm h a0 a1
      go_enter Try.func4, Try.ntmps4
      go_wp2_with (fail)
      refine (shown_any _).mono ?_
      rintro e w1 ⟨rfl, h1⟩
      have A1 := (Blk.new w 24 #[.int .i64 t, .int .i64 l, .int .u64 m]).up h1
      have U1 := ((Up.refl w).alloc (.cells #[.int .i64 t, .int .i64 l, .int .u64 m] 24)).trans h1
      clear h1
      have A1c := A1.cell
      have A1l := A1.lt
      go_wp2_with (fail)
      refine (c1.out _).mono ?_
      rintro e w2 ⟨rfl, h2⟩
      have A2 := A1.up h2
      have U2 := (U1).trans h2
      clear h2 U1 A1 A1c A1l
      have A2c := A2.cell
      have A2l := A2.lt
      go_wp2_with (fail)
      refine (c2.out _).mono ?_
      rintro e w3 ⟨rfl, h3⟩
      have A3 := A2.up h3
      have U3 := (U2).trans h3
      clear h3 U2 A2 A2c A2l
      have A3c := A3.cell
      have A3l := A3.lt
      go_wp2_with (fail)
      refine (c3.out _).mono ?_
      rintro e w4 ⟨rfl, h4⟩
      have A4 := (A3.alloc (.cells #[.int .i64 (t), .int .i64 (l), .int .u64 (m)] 24)).up h4
      have K4 := (Blk.new w3 24 #[.int .i64 (t), .int .i64 (l), .int .u64 (m)]).up h4
      have U4 := (U3.alloc _).trans h4
      clear h4 U3 A3 A3c A3l
      have A4c := A4.cell
      have A4l := A4.lt
      have K4c := K4.cell
      have K4l := K4.lt
      go_wp2_with (fail)
      refine (c4.out _).mono ?_
      rintro e w5 ⟨rfl, h5⟩
      have A5 := (A4.alloc (.cells #[.int .i64 (tgw a), .int .i64 (lnw a), .int .u64 (mpw a)] 24)).up h5
      have K5 := (K4.alloc (.cells #[.int .i64 (tgw a), .int .i64 (lnw a), .int .u64 (mpw a)] 24)).up h5
      have X5 := (Blk.new w4 24 #[.int .i64 (tgw a), .int .i64 (lnw a), .int .u64 (mpw a)]).up h5
      have U5 := (U4.alloc _).trans h5
      clear h5 U4 A4 A4c A4l K4 K4c K4l
      have A5c := A5.cell
      have A5l := A5.lt
      have K5c := K5.cell
      have K5l := K5.lt
      have X5c := X5.cell
      have X5l := X5.lt
      go_wp2_with (fail)
      refine (c5.out _).mono ?_
      rintro e w6 ⟨rfl, h6⟩
      have A6 := A5.up h6
      have K6 := K5.up h6
      have X6 := X5.up h6
      have U6 := (U5).trans h6
      clear h6 U5 A5 A5c A5l K5 K5c K5l X5 X5c X5l
      have A6c := A6.cell
      have A6l := A6.lt
      have K6c := K6.cell
      have K6l := K6.lt
      have X6c := X6.cell
      have X6l := X6.lt
      go_wp2
      go_ret
      exact ⟨rfl, U6⟩
    · have n1 : (rte t l m == 0) = false := beq_eq_false_iff_ne.mpr h
      have c1 := Lib.hid (fun w => word_no t l m _ rfl h w)
      clear ht hl hm h a0 a1 hN
      generalize rte t l m = x at n1 c1
      go_enter Try.func4, Try.ntmps4
      go_wp2_with (fail)
      refine (shown_any _).mono ?_
      rintro e w1 ⟨rfl, h1⟩
      have A1 := (Blk.new w 24 #[.int .i64 t, .int .i64 l, .int .u64 m]).up h1
      have U1 := ((Up.refl w).alloc (.cells #[.int .i64 t, .int .i64 l, .int .u64 m] 24)).trans h1
      clear h1
      have A1c := A1.cell
      have A1l := A1.lt
      go_wp2_with (fail)
      refine (c1.out _).mono ?_
      rintro e w2 ⟨rfl, h2⟩
      have A2 := A1.up h2
      have U2 := (U1).trans h2
      clear h2 U1 A1 A1c A1l
      have A2c := A2.cell
      have A2l := A2.lt
      go_wp2_with (fail)
      refine (c3.out _).mono ?_
      rintro e w3 ⟨rfl, h3⟩
      have A3 := A2.up h3
      have U3 := (U2).trans h3
      clear h3 U2 A2 A2c A2l
      have A3c := A3.cell
      have A3l := A3.lt
      go_wp2_with (fail)
      refine (c4.out _).mono ?_
      rintro e w4 ⟨rfl, h4⟩
      have A4 := (A3.alloc (.cells #[.int .i64 (tgw a), .int .i64 (lnw a), .int .u64 (mpw a)] 24)).up h4
      have X4 := (Blk.new w3 24 #[.int .i64 (tgw a), .int .i64 (lnw a), .int .u64 (mpw a)]).up h4
      have U4 := (U3.alloc _).trans h4
      clear h4 U3 A3 A3c A3l
      have A4c := A4.cell
      have A4l := A4.lt
      have X4c := X4.cell
      have X4l := X4.lt
      go_wp2_with (fail)
      refine (c5.out _).mono ?_
      rintro e w5 ⟨rfl, h5⟩
      have A5 := A4.up h5
      have X5 := X4.up h5
      have U5 := (U4).trans h5
      clear h5 U4 A4 A4c A4l X4 X4c X4l
      have A5c := A5.cell
      have A5l := A5.lt
      have X5c := X5.cell
      have X5l := X5.lt
      go_wp2
      go_ret
      exact ⟨rfl, U5⟩
  · have c3 := Lib.hid (fun w => take_no a _ _ _ _ a0 a1 rfl rfl rfl rfl k w)
    have c4 := Lib.hid (fun w => word_no 0 0 0 1 (by decide) (by decide) w)
    clear k
    by_cases h : rte t l m = 0
    · have c1 := Lib.hid (fun w => word_ok t l m hm h w)
      have c2 := Lib.hid (hc2.out h)
      clear ht hl hm h a0 a1
      go_enter Try.func4, Try.ntmps4
      go_wp2_with (fail)
      refine (shown_any _).mono ?_
      rintro e w1 ⟨rfl, h1⟩
      have A1 := (Blk.new w 24 #[.int .i64 t, .int .i64 l, .int .u64 m]).up h1
      have U1 := ((Up.refl w).alloc (.cells #[.int .i64 t, .int .i64 l, .int .u64 m] 24)).trans h1
      clear h1
      have A1c := A1.cell
      have A1l := A1.lt
      go_wp2_with (fail)
      refine (c1.out _).mono ?_
      rintro e w2 ⟨rfl, h2⟩
      have A2 := A1.up h2
      have U2 := (U1).trans h2
      clear h2 U1 A1 A1c A1l
      have A2c := A2.cell
      have A2l := A2.lt
      go_wp2_with (fail)
      refine (c2.out _).mono ?_
      rintro e w3 ⟨rfl, h3⟩
      have A3 := A2.up h3
      have U3 := (U2).trans h3
      clear h3 U2 A2 A2c A2l
      have A3c := A3.cell
      have A3l := A3.lt
      go_wp2_with (fail)
      refine (c3.out _).mono ?_
      rintro e w4 ⟨rfl, h4⟩
      have A4 := (A3.alloc (.cells #[.int .i64 (t), .int .i64 (l), .int .u64 (m)] 24)).up h4
      have K4 := (Blk.new w3 24 #[.int .i64 (t), .int .i64 (l), .int .u64 (m)]).up h4
      have U4 := (U3.alloc _).trans h4
      clear h4 U3 A3 A3c A3l
      have A4c := A4.cell
      have A4l := A4.lt
      have K4c := K4.cell
      have K4l := K4.lt
      go_wp2_with (fail)
      refine (c4.out _).mono ?_
      rintro e w5 ⟨rfl, h5⟩
      have A5 := (A4.alloc (.cells #[.int .i64 (0), .int .i64 (0), .int .u64 (0)] 24)).up h5
      have K5 := (K4.alloc (.cells #[.int .i64 (0), .int .i64 (0), .int .u64 (0)] 24)).up h5
      have X5 := (Blk.new w4 24 #[.int .i64 (0), .int .i64 (0), .int .u64 (0)]).up h5
      have U5 := (U4.alloc _).trans h5
      clear h5 U4 A4 A4c A4l K4 K4c K4l
      have A5c := A5.cell
      have A5l := A5.lt
      have K5c := K5.cell
      have K5l := K5.lt
      have X5c := X5.cell
      have X5l := X5.lt
      go_wp2
      go_ret
      exact ⟨rfl, U5⟩
    · have n1 : (rte t l m == 0) = false := beq_eq_false_iff_ne.mpr h
      have c1 := Lib.hid (fun w => word_no t l m _ rfl h w)
      clear ht hl hm h a0 a1 hN
      generalize rte t l m = x at n1 c1
      go_enter Try.func4, Try.ntmps4
      go_wp2_with (fail)
      refine (shown_any _).mono ?_
      rintro e w1 ⟨rfl, h1⟩
      have A1 := (Blk.new w 24 #[.int .i64 t, .int .i64 l, .int .u64 m]).up h1
      have U1 := ((Up.refl w).alloc (.cells #[.int .i64 t, .int .i64 l, .int .u64 m] 24)).trans h1
      clear h1
      have A1c := A1.cell
      have A1l := A1.lt
      go_wp2_with (fail)
      refine (c1.out _).mono ?_
      rintro e w2 ⟨rfl, h2⟩
      have A2 := A1.up h2
      have U2 := (U1).trans h2
      clear h2 U1 A1 A1c A1l
      have A2c := A2.cell
      have A2l := A2.lt
      go_wp2_with (fail)
      refine (c3.out _).mono ?_
      rintro e w3 ⟨rfl, h3⟩
      have A3 := A2.up h3
      have U3 := (U2).trans h3
      clear h3 U2 A2 A2c A2l
      have A3c := A3.cell
      have A3l := A3.lt
      go_wp2_with (fail)
      refine (c4.out _).mono ?_
      rintro e w4 ⟨rfl, h4⟩
      have A4 := (A3.alloc (.cells #[.int .i64 (0), .int .i64 (0), .int .u64 (0)] 24)).up h4
      have X4 := (Blk.new w3 24 #[.int .i64 (0), .int .i64 (0), .int .u64 (0)]).up h4
      have U4 := (U3.alloc _).trans h4
      clear h4 U3 A3 A3c A3l
      have A4c := A4.cell
      have A4l := A4.lt
      have X4c := X4.cell
      have X4l := X4.lt
      go_wp2
      go_ret
      exact ⟨rfl, U4⟩

set_option maxRecDepth 100000 in
theorem lifted (os : Os) (started : os.Started) (H : Type) (enc : TypeId × Value → H) :
    ReturnsInHanded {} Try.checked os 4 .any (Rows.headBackSpec.pre6 enc Try.prog Try.f4 Rows.headBackRow.domain false) (Rows.headBackSpec.post enc Try.prog Try.f4 false true false false) := by
  refine returnsInHanded_of_change (C := Try.checked) own started (by kernel_rfl) Try.func4
    (ChangeSpec.witness6 (enc := enc) (C := Try.checked) false ⟨#[], #[.agg #[.int .i64 0, .int .i64 0, .int .u64 0], .int .u64 0], []⟩ 8 (by kernel_rfl) (by kernel_rfl) (by kernel_rfl) (by kernel_rfl)) ?_
  intro W base args ds gs before hval0 hW hcnd _
  have hval : ∀ (j : Nat) t v, Try.f4.params[j]? = some t → args[j]? = some v → Value.okWide Try.prog W .any base t v := hval0
  have hW' := hW
  obtain ⟨p, q, hA0, hV, rfl, hfz, hnd⟩ := hW
  have hA : DataW.TrodAll enc Try.prog W 0 (fun _ => true) true Try.f4.params.toList args.toList ds p := hA0
  rw [Try.params4] at hA hval
  obtain ⟨v0, vs0, d0, ds0, p0, q0, hargs, rfl, rfl, h0, r0⟩ := trodAll_cons hA
  obtain ⟨v1, vs1, d1, ds1, p1, q1, rfl, rfl, rfl, h1, r1⟩ := trodAll_cons r0
  obtain ⟨rfl, rfl, rfl⟩ := trodAll_nil r1
  obtain rfl : args = #[v0, v1] := by cases args; simp_all
  obtain ⟨rfl, rfl⟩ := trodVars_none hV
  obtain ⟨t0, l0, m0, rfl, rfl, rfl, wt0, wl0, wm0⟩ := head_open (hval 0 24 v0 rfl rfl) h0
  obtain ⟨a1, rfl, rfl, rfl, w1⟩ := open_int Try.underlying22 (hval 1 22 v1 rfl rfl) h1
  clear hA0 hval0
  simp only [List.append_nil] at hW'
  refine (walk t0 l0 m0 a1 (i64_of_wf wt0) (i64_of_wf wl0) (u64_of_wf wm0) (u64_of_wf w1) W).mono fun e W' ⟨he, hg⟩ => ?_
  subst he
  exact ⟨_, rfl, post_below (pa := []) (pv := []) hW' (fun _ _ _ => (trodAll_cons_mk (shut_bool Try.underlying4 _) trodAll_mk0)) (fun sp _ => (trodAll_cons_mk (shut_head wt0 wl0 wm0) (trodAll_cons_mk (shut_int Try.underlying22 w1) trodAll_mk0))) (fun _ _ => rfl) rfl
    hg (ok_one (by kernel_rfl) rfl (okWide_bool_mk Try.underlying4 _))⟩

theorem over : Rows.headBackRow.holds Try.pinned (OpenSpec.ofChange Rows.headBackSpec) :=
  OpenClaim.holds_of_wide 4 Try.f4 rfl rfl rfl rfl rfl rfl rfl ⟨rfl, rfl, rfl, rfl, rfl⟩ rfl rfl rfl rfl rfl (by kernel_rfl) Try.func4 (by kernel_rfl)
    (of_decide_eq_true (by kernel_rfl)) (by unfold Func.isWrapper; first | (rw [if_pos (by decide +kernel)]; kernel_rfl) | (rw [if_neg (by decide +kernel)]; exact ⟨rfl, rfl⟩))
    (fun os started H enc _ => lifted os started H enc)

theorem proved : Rows.HeadBackSaid :=
  over
#print axioms proved
end Go.Proofs.Ytelchfmfioofmaa.LHeadBack
