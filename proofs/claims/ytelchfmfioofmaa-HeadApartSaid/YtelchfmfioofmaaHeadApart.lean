/- The statement HeadApart is proved for every input, from contracts of the functions that it calls; no condition is added. -/
import Derived.Test.YtelchfmfioofmaaHd8
namespace Go.Proofs.Ytelchfmfioofmaa.LHeadApart
open Go.Joins Go.ChangeShapes Go.WideShapes Go.ChangeAt Go.RowKit Go.Deep
set_option linter.unusedVariables false
set_option linter.unusedSimpArgs false

theorem own : ownKnob Try.prog.godebug = none := by kernel_rfl

theorem wrd_inj {t l m t' l' m' : Int} (h0 : 0 ≤ t) (h1 : t ≤ 255) (h2 : 0 ≤ l) (h3 : l ≤ 65535) (h4 : 0 ≤ m) (h5 : m < 65536)
    (k0 : 0 ≤ t') (k1 : t' ≤ 255) (k2 : 0 ≤ l') (k3 : l' ≤ 65535) (k4 : 0 ≤ m') (k5 : m' < 65536) (h : wrd t l m = wrd t' l' m') : t = t' ∧ l = l' ∧ m = m' := by
  unfold wrd at h; omega
theorem wrd_same {t l m t' l' m' : Int} (hm : 0 ≤ m) (hm' : 0 ≤ m') (h : rte t l m = 0) (k : rte t' l' m' = 0) : (wrd t l m == wrd t' l' m') = hsame t l m t' l' m' := by
  obtain ⟨h0, h1, h2, h3, h4, -⟩ := rte_small hm h
  obtain ⟨k0, k1, k2, k3, k4, -⟩ := rte_small hm' k
  rw [Bool.eq_iff_iff, beq_iff_eq, hsame_iff]
  constructor
  · exact wrd_inj (by omega) h1 h2 h3 hm h4 (by omega) k1 k2 k3 hm' k4
  · rintro ⟨rfl, rfl, rfl⟩; rfl
theorem wrd_pos {t l m : Int} (hm : 0 ≤ m) (h : rte t l m = 0) : (wrd t l m != 0) = true := by
  obtain ⟨h0, h1, h2, h3, h4, -⟩ := rte_small hm h
  rw [bne_iff_ne]
  unfold wrd; omega

set_option maxHeartbeats 2000000 in
theorem walk (t l m t' l' m' : Int) (ht : I64 t) (hl : I64 l) (hm : U64 m) (ht' : I64 t') (hl' : I64 l') (hm' : U64 m') (w : World) :
    Calls Try.prog 5 #[hdv t l m, hdv t' l' m'] w fun e w' => e = .returned (.bool true) ∧ Up w w' := by
  have hm := hm.1
  have hm' := hm'.1
  have hE := eq_head t l m t' l' m'
  by_cases h : rte t l m = 0
  · have P0 := wrd_pos hm h
    have c1 := Lib.hid (fun w => word_ok t l m hm h w)
    by_cases k : rte t' l' m' = 0
    · have S := wrd_same hm hm' h k
      have c2 := Lib.hid (fun w => word_ok t' l' m' hm' k w)
      clear ht hl ht' hl' hm hm' h k
      go_enter Try.func5, Try.ntmps5
      go_wp2_with (fail)
      refine (shown_any _).mono ?_
      rintro e w1 ⟨rfl, h1⟩
      have A1 := ((Blk.new w 24 #[.int .i64 t, .int .i64 l, .int .u64 m]).alloc (.cells #[.int .i64 t', .int .i64 l', .int .u64 m'] 24)).up h1
      have B1 := (Blk.new1 w (.cells #[.int .i64 t, .int .i64 l, .int .u64 m] 24) 24 #[.int .i64 t', .int .i64 l', .int .u64 m']).up h1
      have U1 : Up w w1 := (((Up.refl w).alloc _).alloc _).trans h1
      clear h1
      have A1c := A1.cell
      have B1c := B1.cell
      go_wp2_with (fail)
      refine (c1.out _).mono ?_
      rintro e w2 ⟨rfl, h2⟩
      have A2 := A1.up h2
      have B2 := B1.up h2
      have U2 := U1.trans h2
      clear A1 B1 U1 h2 A1c B1c
      have A2c := A2.cell
      have B2c := B2.cell
      go_wp2_with (fail)
      refine (c2.out _).mono ?_
      rintro e w3 ⟨rfl, h3⟩
      have A3 := A2.up h3
      have B3 := B2.up h3
      have U3 := U2.trans h3
      clear A2 B2 U2 h3 A2c B2c
      have A3c := A3.cell
      have B3c := B3.cell
      go_wp2
      go_ret
      exact ⟨rfl, U3⟩
    · have n1 : (rte t' l' m' != 0) = true := bne_iff_ne.mpr k
      have c2 := Lib.hid (fun w => word_no t' l' m' _ rfl k w)
      clear k
      generalize rte t' l' m' = y at n1 c2
      clear ht hl ht' hl' hm hm' h hE
      go_enter Try.func5, Try.ntmps5
      go_wp2_with (fail)
      refine (shown_any _).mono ?_
      rintro e w1 ⟨rfl, h1⟩
      have A1 := ((Blk.new w 24 #[.int .i64 t, .int .i64 l, .int .u64 m]).alloc (.cells #[.int .i64 t', .int .i64 l', .int .u64 m'] 24)).up h1
      have B1 := (Blk.new1 w (.cells #[.int .i64 t, .int .i64 l, .int .u64 m] 24) 24 #[.int .i64 t', .int .i64 l', .int .u64 m']).up h1
      have U1 : Up w w1 := (((Up.refl w).alloc _).alloc _).trans h1
      clear h1
      have A1c := A1.cell
      have B1c := B1.cell
      go_wp2_with (fail)
      refine (c1.out _).mono ?_
      rintro e w2 ⟨rfl, h2⟩
      have A2 := A1.up h2
      have B2 := B1.up h2
      have U2 := U1.trans h2
      clear A1 B1 U1 h2 A1c B1c
      have A2c := A2.cell
      have B2c := B2.cell
      go_wp2_with (fail)
      refine (c2.out _).mono ?_
      rintro e w3 ⟨rfl, h3⟩
      have A3 := A2.up h3
      have B3 := B2.up h3
      have U3 := U2.trans h3
      clear A2 B2 U2 h3 A2c B2c
      have A3c := A3.cell
      have B3c := B3.cell
      go_wp2
      go_ret
      exact ⟨rfl, U3⟩
  · have n1 : (rte t l m != 0) = true := bne_iff_ne.mpr h
    have c1 := Lib.hid (fun w => word_no t l m _ rfl h w)
    have c2 := Lib.hid (fun w => word_any t' l' m' hm' w)
    clear h
    generalize rte t l m = x at n1 c1
    clear ht hl ht' hl' hm hm' hE
    go_enter Try.func5, Try.ntmps5
    go_wp2_with (fail)
    refine (shown_any _).mono ?_
    rintro e w1 ⟨rfl, h1⟩
    have A1 := ((Blk.new w 24 #[.int .i64 t, .int .i64 l, .int .u64 m]).alloc (.cells #[.int .i64 t', .int .i64 l', .int .u64 m'] 24)).up h1
    have B1 := (Blk.new1 w (.cells #[.int .i64 t, .int .i64 l, .int .u64 m] 24) 24 #[.int .i64 t', .int .i64 l', .int .u64 m']).up h1
    have U1 : Up w w1 := (((Up.refl w).alloc _).alloc _).trans h1
    clear h1
    have A1c := A1.cell
    have B1c := B1.cell
    go_wp2_with (fail)
    refine (c1.out _).mono ?_
    rintro e w2 ⟨rfl, h2⟩
    have A2 := A1.up h2
    have B2 := B1.up h2
    have U2 := U1.trans h2
    clear A1 B1 U1 h2 A1c B1c
    have A2c := A2.cell
    have B2c := B2.cell
    go_wp2_with (fail)
    refine (c2.out _).mono ?_
    rintro e w3 ⟨rfl, h3⟩
    have A3 := A2.up h3
    have B3 := B2.up h3
    have U3 := U2.trans h3
    clear A2 B2 U2 h3 A2c B2c
    have A3c := A3.cell
    have B3c := B3.cell
    go_wp2
    go_ret
    exact ⟨rfl, U3⟩

set_option maxRecDepth 100000 in
theorem lifted (os : Os) (started : os.Started) (H : Type) (enc : TypeId × Value → H) :
    ReturnsInHanded {} Try.checked os 5 .any (Rows.headApartSpec.pre6 enc Try.prog Try.f5 Rows.headApartRow.domain false) (Rows.headApartSpec.post enc Try.prog Try.f5 false true false false) := by
  refine returnsInHanded_of_change (C := Try.checked) own started (by kernel_rfl) Try.func5
    (ChangeSpec.witness6 (enc := enc) (C := Try.checked) false ⟨#[], #[.agg #[.int .i64 0, .int .i64 0, .int .u64 0], .agg #[.int .i64 0, .int .i64 0, .int .u64 0]], []⟩ 8 (by kernel_rfl) (by kernel_rfl) (by kernel_rfl) (by kernel_rfl)) ?_
  intro W base args ds gs before hval0 hW hcnd _
  have hval : ∀ (j : Nat) t v, Try.f5.params[j]? = some t → args[j]? = some v → Value.okWide Try.prog W .any base t v := hval0
  have hW' := hW
  obtain ⟨p, q, hA0, hV, rfl, hfz, hnd⟩ := hW
  have hA : DataW.TrodAll enc Try.prog W 0 (fun _ => true) true Try.f5.params.toList args.toList ds p := hA0
  rw [Try.params5] at hA hval
  obtain ⟨v0, vs0, d0, ds0, p0, q0, hargs, rfl, rfl, h0, r0⟩ := trodAll_cons hA
  obtain ⟨v1, vs1, d1, ds1, p1, q1, rfl, rfl, rfl, h1, r1⟩ := trodAll_cons r0
  obtain ⟨rfl, rfl, rfl⟩ := trodAll_nil r1
  obtain rfl : args = #[v0, v1] := by cases args; simp_all
  obtain ⟨rfl, rfl⟩ := trodVars_none hV
  obtain ⟨t0, l0, m0, rfl, rfl, rfl, wt0, wl0, wm0⟩ := head_open (hval 0 24 v0 rfl rfl) h0
  obtain ⟨t1, l1, m1, rfl, rfl, rfl, wt1, wl1, wm1⟩ := head_open (hval 1 24 v1 rfl rfl) h1
  clear hA0 hval0
  simp only [List.append_nil] at hW'
  refine (walk t0 l0 m0 t1 l1 m1 (i64_of_wf wt0) (i64_of_wf wl0) (u64_of_wf wm0) (i64_of_wf wt1) (i64_of_wf wl1) (u64_of_wf wm1) W).mono fun e W' ⟨he, hg⟩ => ?_
  subst he
  exact ⟨_, rfl, post_below (pa := []) (pv := []) hW' (fun _ _ _ => (trodAll_cons_mk (shut_bool Try.underlying4 _) trodAll_mk0)) (fun sp _ => (trodAll_cons_mk (shut_head wt0 wl0 wm0) (trodAll_cons_mk (shut_head wt1 wl1 wm1) trodAll_mk0))) (fun _ _ => rfl) rfl
    hg (ok_one (by kernel_rfl) rfl (okWide_bool_mk Try.underlying4 _))⟩

theorem over : Rows.headApartRow.holds Try.pinned (OpenSpec.ofChange Rows.headApartSpec) :=
  OpenClaim.holds_of_wide 5 Try.f5 rfl rfl rfl rfl rfl rfl rfl ⟨rfl, rfl, rfl, rfl, rfl⟩ rfl rfl rfl rfl rfl (by kernel_rfl) Try.func5 (by kernel_rfl)
    (of_decide_eq_true (by kernel_rfl)) (by unfold Func.isWrapper; first | (rw [if_pos (by decide +kernel)]; kernel_rfl) | (rw [if_neg (by decide +kernel)]; exact ⟨rfl, rfl⟩))
    (fun os started H enc _ => lifted os started H enc)

theorem proved : Rows.HeadApartSaid :=
  over
#print axioms proved
end Go.Proofs.Ytelchfmfioofmaa.LHeadApart
