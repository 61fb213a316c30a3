/- The statement HeadTells is proved for every input, from contracts of the functions that it calls; no condition is added. -/
import Derived.Test.YtelchfmfioofmaaHd8
namespace Go.Proofs.Ytelchfmfioofmaa.LHeadTells
open Go.Joins Go.ChangeShapes Go.WideShapes Go.ChangeAt Go.RowKit Go.Deep
set_option linter.unusedVariables false
set_option linter.unusedSimpArgs false

theorem own : ownKnob Try.prog.godebug = none := by kernel_rfl

set_option maxHeartbeats 2000000 in
set_option maxRecDepth 100000 in
theorem walk (t l m a : Int) (ht : I64 t) (hl : I64 l) (hm : U64 m) (ha : U64 a) (w : World) :
    Calls Try.prog 3 #[hdv t l m, .int .u64 a] w fun e w' => e = .returned (.bool true) ∧ Up w w' := by
  obtain ⟨a0, a1⟩ := ha
  have hm := hm.1
  have hE : ∀ w, (binOp .eql 24 (.agg #[.int .i64 (tkt a), .int .i64 (tkl a), .int .u64 (tkm a)]) (.agg #[.int .i64 (tkt a), .int .i64 (tkl a), .int .u64 (tkm a)])).run Try.prog w = .ok (.bool true) w := fun w => by rw [eq_head, hsame_self]
  have c1 := Lib.hid (fun w => word_any t l m hm w)
  have c2 := Lib.hid (fun w => rword_any t l m hm w)
  have c3 := Lib.hid (fun w => take_any a a0 a1 w)
  have c4 := Lib.hid (fun w => rtake_any a a0 a1 w)
  have c5 := Lib.hid (fun w => right_any t l m w)
  have c6 := Lib.hid (fun w => rright_any t l m hm w)
  clear ht hl hm a0 a1
  go_enter Try.func3, Try.ntmps3
  go_wp2_with (fail)
  refine (shown_any _).mono ?_
  rintro e w1 ⟨rfl, h1⟩
  have A1 := (Blk.new w 24 #[.int .i64 t, .int .i64 l, .int .u64 m]).up h1
  have U1 := ((Up.refl w).alloc (.cells #[.int .i64 t, .int .i64 l, .int .u64 m] 24)).trans h1
  clear h1
  have A1c := A1.cell
  have A1l := A1.lt
  go_wp2_with (fail)
  refine (c1.out _).mono ?_
  rintro e w2 ⟨rfl, h2⟩
  have A2 := A1.up h2
  have U2 := (U1).trans h2
  clear h2 U1 A1 A1c A1l
  have A2c := A2.cell
  have A2l := A2.lt
  go_wp2_with (fail)
  refine (c2.out _).mono ?_
  rintro e w3 ⟨rfl, h3⟩
  have A3 := A2.up h3
  have U3 := (U2).trans h3
  clear h3 U2 A2 A2c A2l
  have A3c := A3.cell
  have A3l := A3.lt
  go_wp2_with (fail)
  refine (c3.out _).mono ?_
  rintro e w4 ⟨rfl, h4⟩
  have A4 := A3.up h4
  have U4 := (U3).trans h4
  clear h4 U3 A3 A3c A3l
  have A4c := A4.cell
  have A4l := A4.lt
  go_wp2_with (fail)
  refine (c4.out _).mono ?_
  rintro e w5 ⟨rfl, h5⟩
  have A5 := (A4.alloc (.cells #[.int .i64 (tkt a), .int .i64 (tkl a), .int .u64 (tkm a)] 24)).up h5
  have X5 := (Blk.new w4 24 #[.int .i64 (tkt a), .int .i64 (tkl a), .int .u64 (tkm a)]).up h5
  have U5 := (U4.alloc _).trans h5
  clear h5 U4 A4 A4c A4l
  have A5c := A5.cell
  have A5l := A5.lt
  have X5c := X5.cell
  have X5l := X5.lt
  go_wp2_with (fail)
  obtain ⟨W0, hW0⟩ : ∃ W0 : World, W0 = (w5.alloc (.cells #[.int .i64 (tkt a), .int .i64 (tkl a), .int .u64 (tkm a)] 24)).drew := ⟨_, rfl⟩
  have U0 : Up W0 (w5.alloc (.cells #[.int .i64 (tkt a), .int .i64 (tkl a), .int .u64 (tkm a)] 24)).drew := by rw [hW0]; exact Up.refl _
  have A0 := (A5.alloc (.cells #[.int .i64 (tkt a), .int .i64 (tkl a), .int .u64 (tkm a)] 24)).drew
  have X0 := (X5.alloc (.cells #[.int .i64 (tkt a), .int .i64 (tkl a), .int .u64 (tkm a)] 24)).drew
  have Y0 := (Blk.new w5 24 #[.int .i64 (tkt a), .int .i64 (tkl a), .int .u64 (tkm a)]).drew
  have UW := (U5.alloc (.cells #[.int .i64 (tkt a), .int .i64 (tkl a), .int .u64 (tkm a)] 24)).drew
  rw [← hW0] at A0 X0 Y0 UW
  clear hW0 A5 A5c A5l X5 X5c X5l U5
  go_outline
  go_region_held3 (fun w' => (∀ i, w'.cell? ⟨w.heap.size, i, none⟩ = (#[.int .i64 t, .int .i64 l, .int .u64 m] : Array Value)[i]?) ∧ (∀ i, w'.cell? ⟨w4.heap.size, i, none⟩ = (#[.int .i64 (tkt a), .int .i64 (tkl a), .int .u64 (tkm a)] : Array Value)[i]?) ∧ (∀ i, w'.cell? ⟨w5.heap.size, i, none⟩ = (#[.int .i64 (tkt a), .int .i64 (tkl a), .int .u64 (tkm a)] : Array Value)[i]?))
    (exact ⟨fun i => (Blk.up A0 (by assumption)).cell i, fun i => (Blk.up X0 (by assumption)).cell i, fun i => (Blk.up Y0 (by assumption)).cell i⟩)
    (first
      | (go_at_call 13; ((with_reducible refine (c5.out _).mono ?_); rintro e wz ⟨rfl, hz⟩; have UZ := Up.trans (a := W0) (by assumption) hz))
      | (go_at_call 14; ((with_reducible refine (c6.out _).mono ?_); rintro e wz ⟨rfl, hz⟩; have UZ := Up.trans (a := W0) (by assumption) hz)))
  all_goals
    go_wp2
    go_ret
    exact ⟨rfl, UW.trans UZ⟩

set_option maxRecDepth 100000 in
theorem lifted (os : Os) (started : os.Started) (H : Type) (enc : TypeId × Value → H) :
    ReturnsInHanded {} Try.checked os 3 .any (Rows.headTellsSpec.pre6 enc Try.prog Try.f3 Rows.headTellsRow.domain false) (Rows.headTellsSpec.post enc Try.prog Try.f3 false true false false) := by
  refine returnsInHanded_of_change (C := Try.checked) own started (by kernel_rfl) Try.func3
    (ChangeSpec.witness6 (enc := enc) (C := Try.checked) false ⟨#[], #[.agg #[.int .i64 0, .int .i64 0, .int .u64 0], .int .u64 0], []⟩ 8 (by kernel_rfl) (by kernel_rfl) (by kernel_rfl) (by kernel_rfl)) ?_
  intro W base args ds gs before hval0 hW hcnd _
  have hval : ∀ (j : Nat) t v, Try.f3.params[j]? = some t → args[j]? = some v → Value.okWide Try.prog W .any base t v := hval0
  have hW' := hW
  obtain ⟨p, q, hA0, hV, rfl, hfz, hnd⟩ := hW
  have hA : DataW.TrodAll enc Try.prog W 0 (fun _ => true) true Try.f3.params.toList args.toList ds p := hA0
  rw [Try.params3] at hA hval
  obtain ⟨v0, vs0, d0, ds0, p0, q0, hargs, rfl, rfl, h0, r0⟩ := trodAll_cons hA
  obtain ⟨v1, vs1, d1, ds1, p1, q1, rfl, rfl, rfl, h1, r1⟩ := trodAll_cons r0
  obtain ⟨rfl, rfl, rfl⟩ := trodAll_nil r1
  obtain rfl : args = #[v0, v1] := by cases args; simp_all
  obtain ⟨rfl, rfl⟩ := trodVars_none hV
  obtain ⟨t0, l0, m0, rfl, rfl, rfl, wt0, wl0, wm0⟩ := head_open (hval 0 24 v0 rfl rfl) h0
  obtain ⟨a1, rfl, rfl, rfl, w1⟩ := open_int Try.underlying22 (hval 1 22 v1 rfl rfl) h1
  clear hA0 hval0
  simp only [List.append_nil] at hW'
  refine (walk t0 l0 m0 a1 (i64_of_wf wt0) (i64_of_wf wl0) (u64_of_wf wm0) (u64_of_wf w1) W).mono fun e W' ⟨he, hg⟩ => ?_
  subst he
  exact ⟨_, rfl, post_below (pa := []) (pv := []) hW' (fun _ _ _ => (trodAll_cons_mk (shut_bool Try.underlying4 _) trodAll_mk0)) (fun sp _ => (trodAll_cons_mk (shut_head wt0 wl0 wm0) (trodAll_cons_mk (shut_int Try.underlying22 w1) trodAll_mk0))) (fun _ _ => rfl) rfl
    hg (ok_one (by kernel_rfl) rfl (okWide_bool_mk Try.underlying4 _))⟩

theorem over : Rows.headTellsRow.holds Try.pinned (OpenSpec.ofChange Rows.headTellsSpec) :=
  OpenClaim.holds_of_wide 3 Try.f3 rfl rfl rfl rfl rfl rfl rfl ⟨rfl, rfl, rfl, rfl, rfl⟩ rfl rfl rfl rfl rfl (by kernel_rfl) Try.func3 (by kernel_rfl)
    (of_decide_eq_true (by kernel_rfl)) (by unfold Func.isWrapper; first | (rw [if_pos (by decide +kernel)]; kernel_rfl) | (rw [if_neg (by decide +kernel)]; exact ⟨rfl, rfl⟩))
    (fun os started H enc _ => lifted os started H enc)

theorem proved : Rows.HeadTellsSaid :=
  over
#print axioms proved
end Go.Proofs.Ytelchfmfioofmaa.LHeadTells
