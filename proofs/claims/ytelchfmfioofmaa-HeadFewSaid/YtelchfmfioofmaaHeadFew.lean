/- The statement HeadFew is proved for every input, from contracts of the functions that it calls; no condition is added. -/
import Derived.Test.YtelchfmfioofmaaHd8
import Derived.IntWalk
namespace Go.Proofs.Ytelchfmfioofmaa.LHeadFew
open Go.Joins Go.ChangeShapes Go.WideShapes Go.ChangeAt Go.RowKit Go.Deep
set_option linter.unusedVariables false
set_option linter.unusedSimpArgs false

theorem own : ownKnob Try.prog.godebug = none := by kernel_rfl

def Sl (w : World) (n : Nat) (e : Ending) (w' : World) : Prop := ∃ A c, e = .returned (.slice A n c) ∧ Up w w'
theorem fst_le (l m : Int) : ∀ k, (fst l m k).length ≤ l.toNat
  | 0 => Nat.zero_le _
  | k + 1 => by
    have h1 := fst_le l m k
    have h2 : (fst l m k).length ≤ (List.range k).length := List.length_filter_le _ _
    rw [List.length_range] at h2
    cases hb : ptb l m (k : Int)
    · rw [fst_no hb]; exact h1
    · rw [fst_yes hb, List.length_append]
      unfold ptb at hb
      simp only [Bool.and_eq_true, decide_eq_true_eq] at hb
      have := hb.2.1
      simp
      omega
theorem ptrs_sl (t lo m : Int) (hm : 0 ≤ m) (hm1 : m ≤ 65535) (n : Nat) (hn : (pts lo m).length = n) (w : World) : Calls Try.prog 16 #[hdv t lo m] w (Sl w n) := by
  subst hn
  refine (ptrs_any t lo m hm hm1 w).mono ?_
  rintro e w' ⟨v, rfl, hr, hg⟩
  rcases hr.2 with ⟨rfl, hx⟩ | ⟨g, cap, cur, rfl, _⟩
  · rw [hx]
    exact ⟨none, 0, rfl, hg⟩
  · exact ⟨_, cap, rfl, hg⟩

set_option maxHeartbeats 2000000 in
theorem walk (t l m : Int) (ht : I64 t) (hl : I64 l) (hm : U64 m) (w : World) :
    Calls Try.prog 6 #[hdv t l m] w fun e w' => e = .returned (.bool true) ∧ Up w w' := by
  have hm := hm.1
  by_cases h : rte t l m = 0
  · obtain ⟨h0, h1, h2, h3, h4, h5⟩ := rte_small hm h
    have c1 := Lib.hid (fun w => right_is t l m 0 h w)
    by_cases ht' : t = 255
    · have hm0 : m = 0 := by omega
      have c2 := Lib.hid (fun w => words_f t l m ht' h2 h3 w)
      have c3 := Lib.hid (fun w => ptrs_sl t l m hm (by omega) 0 (by rw [hm0]; rfl) w)
      have t1 : (t == 255) = true := beq_iff_eq.mpr ht'
      have hL : l + 1 ≤ 65536 := by omega
      clear h h4 h5 hm0 ht' hm ht hl
      go_enter Try.func6, Try.ntmps6
      go_wp2_with (fail)
      refine (shown_any _).mono ?_
      rintro e w1 ⟨rfl, h1⟩
      have A1 := (Blk.new w 24 #[.int .i64 t, .int .i64 l, .int .u64 m]).up h1
      have U1 := ((Up.refl w).alloc (.cells #[.int .i64 t, .int .i64 l, .int .u64 m] 24)).trans h1
      clear h1
      have A1c := A1.cell
      go_wp2_with (fail)
      refine (c1.out _).mono ?_
      rintro e w2 ⟨rfl, h2'⟩
      have A2 := A1.up h2'
      have U2 := U1.trans h2'
      clear h2' U1 A1 A1c
      have A2c := A2.cell
      go_wp2_with (fail)
      refine (c2.out _).mono ?_
      rintro e w3 ⟨rfl, h3'⟩
      have A3 := A2.up h3'
      have U3 := U2.trans h3'
      clear h3' U2 A2 A2c
      have A3c := A3.cell
      go_wp2_with (fail)
      refine (c3.out _).mono ?_
      rintro e w4 ⟨P, c, rfl, h4'⟩
      go_wp2
      go_ret
      exact ⟨rfl, U3.trans h4'⟩
    · have c2 := Lib.hid (fun w => words_o t l m (by omega) h2 (by omega) w)
      obtain ⟨n, hn⟩ : ∃ n, (pts l m).length = n := ⟨_, rfl⟩
      have hnl : n ≤ l.toNat := by rw [← hn]; exact fst_le l m _
      have c3 := Lib.hid (fun w => ptrs_sl t l m hm (by omega) n hn w)
      have t1 : (t == 255) = false := beq_eq_false_iff_ne.mpr ht'
      have q1 : (2 + l == l + 2) = true := by rw [beq_iff_eq]; omega
      have q2 : decide ((n : Int) ≤ l) = true := decide_eq_true (by omega)
      have q3 : IntKind.i64.wrap (l + 2) = l + 2 := IntWalk.i64_in _ (by omega)
      have q4 : decide (2 ≤ 2 + l) = true := decide_eq_true (by omega)
      have q5 : decide (2 + l ≤ 18) = true := decide_eq_true (by omega)
      clear h h4 h5 ht' hm ht hl hn hnl
      go_enter Try.func6, Try.ntmps6
      go_wp2_with (fail)
      refine (shown_any _).mono ?_
      rintro e w1 ⟨rfl, h1⟩
      have A1 := (Blk.new w 24 #[.int .i64 t, .int .i64 l, .int .u64 m]).up h1
      have U1 := ((Up.refl w).alloc (.cells #[.int .i64 t, .int .i64 l, .int .u64 m] 24)).trans h1
      clear h1
      have A1c := A1.cell
      go_wp2_with (fail)
      refine (c1.out _).mono ?_
      rintro e w2 ⟨rfl, h2'⟩
      have A2 := A1.up h2'
      have U2 := U1.trans h2'
      clear h2' U1 A1 A1c
      have A2c := A2.cell
      go_wp2_with (fail)
      refine (c2.out _).mono ?_
      rintro e w3 ⟨rfl, h3'⟩
      have A3 := A2.up h3'
      have U3 := U2.trans h3'
      clear h3' U2 A2 A2c
      have A3c := A3.cell
      go_wp2_with (fail)
      have A0 := A3.drew
      have UW := U3.drew
      have U0 := Up.refl w3.drew
      clear A3 A3c U3
      go_region_held3 (fun w' => (∀ i, w'.cell? ⟨w.heap.size, i, none⟩ = (#[.int .i64 t, .int .i64 l, .int .u64 m] : Array Value)[i]?))
        (exact fun i => (Blk.up A0 (by assumption)).cell i)
        ((go_at_call 16; ((with_reducible refine (c3.out _).mono ?_); rintro e wz ⟨P, c, rfl, hz⟩; have UZ := Up.trans (a := w3.drew) (by assumption) hz)))
      all_goals
        go_wp2
        go_ret
        exact ⟨rfl, UW.trans UZ⟩
  · have c1 := Lib.hid (fun w => right_is t l m _ rfl w)
    have n1 : (rte t l m != 0) = true := bne_iff_ne.mpr h
    clear h hm ht hl
    generalize rte t l m = x at n1 c1
    go_enter Try.func6, Try.ntmps6
    go_wp2_with (fail)
    refine (shown_any _).mono ?_
    rintro e w1 ⟨rfl, h1⟩
    have A1 := (Blk.new w 24 #[.int .i64 t, .int .i64 l, .int .u64 m]).up h1
    have U1 := ((Up.refl w).alloc (.cells #[.int .i64 t, .int .i64 l, .int .u64 m] 24)).trans h1
    clear h1
    have A1c := A1.cell
    go_wp2_with (fail)
    refine (c1.out _).mono ?_
    rintro e w2 ⟨rfl, h2'⟩
    go_wp2
    go_ret
    exact ⟨rfl, U1.trans h2'⟩

set_option maxRecDepth 100000 in
theorem lifted (os : Os) (started : os.Started) (H : Type) (enc : TypeId × Value → H) :
    ReturnsInHanded {} Try.checked os 6 .any (Rows.headFewSpec.pre6 enc Try.prog Try.f6 Rows.headFewRow.domain false) (Rows.headFewSpec.post enc Try.prog Try.f6 false true false false) := by
  refine returnsInHanded_of_change (C := Try.checked) own started (by kernel_rfl) Try.func6
    (ChangeSpec.witness6 (enc := enc) (C := Try.checked) false ⟨#[], #[.agg #[.int .i64 0, .int .i64 0, .int .u64 0]], []⟩ 8 (by kernel_rfl) (by kernel_rfl) (by kernel_rfl) (by kernel_rfl)) ?_
  intro W base args ds gs before hval0 hW hcnd _
  have hval : ∀ (j : Nat) t v, Try.f6.params[j]? = some t → args[j]? = some v → Value.okWide Try.prog W .any base t v := hval0
  have hW' := hW
  obtain ⟨p, q, hA0, hV, rfl, hfz, hnd⟩ := hW
  have hA : DataW.TrodAll enc Try.prog W 0 (fun _ => true) true Try.f6.params.toList args.toList ds p := hA0
  rw [Try.params6] at hA hval
  obtain ⟨v0, vs0, d0, ds0, p0, q0, hargs, rfl, rfl, h0, r0⟩ := trodAll_cons hA
  obtain ⟨rfl, rfl, rfl⟩ := trodAll_nil r0
  obtain rfl : args = #[v0] := by cases args; simp_all
  obtain ⟨rfl, rfl⟩ := trodVars_none hV
  obtain ⟨t0, l0, m0, rfl, rfl, rfl, wt0, wl0, wm0⟩ := head_open (hval 0 24 v0 rfl rfl) h0
  clear hA0 hval0
  simp only [List.append_nil] at hW'
  refine (walk t0 l0 m0 (i64_of_wf wt0) (i64_of_wf wl0) (u64_of_wf wm0) W).mono fun e W' ⟨he, hg⟩ => ?_
  subst he
  exact ⟨_, rfl, post_below (pa := []) (pv := []) hW' (fun _ _ _ => (trodAll_cons_mk (shut_bool Try.underlying4 _) trodAll_mk0)) (fun sp _ => (trodAll_cons_mk (shut_head wt0 wl0 wm0) trodAll_mk0)) (fun _ _ => rfl) rfl
    hg (ok_one (by kernel_rfl) rfl (okWide_bool_mk Try.underlying4 _))⟩

theorem over : Rows.headFewRow.holds Try.pinned (OpenSpec.ofChange Rows.headFewSpec) :=
  OpenClaim.holds_of_wide 6 Try.f6 rfl rfl rfl rfl rfl rfl rfl ⟨rfl, rfl, rfl, rfl, rfl⟩ rfl rfl rfl rfl rfl (by kernel_rfl) Try.func6 (by kernel_rfl)
    (of_decide_eq_true (by kernel_rfl)) (by unfold Func.isWrapper; first | (rw [if_pos (by decide +kernel)]; kernel_rfl) | (rw [if_neg (by decide +kernel)]; exact ⟨rfl, rfl⟩))
    (fun os started H enc _ => lifted os started H enc)

theorem proved : Rows.HeadFewSaid :=
  over
#print axioms proved
end Go.Proofs.Ytelchfmfioofmaa.LHeadFew
