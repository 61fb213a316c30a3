/- The statement BumpTells is proved for every input, from contracts of the functions that it calls; no condition is added. -/
import Derived.Test.YtgjalgfdpecbpaaBm5
import Derived.BigQuiet
import Derived.Deep.QuietTactic
import Derived.Deep.RegionHeld3
namespace Go.Proofs.Ytgjalgfdpecbpaa.LBumpTells
open Go.Joins Go.ChangeShapes Go.WideShapes Go.ChangeAt Go.RowKit Go.Deep
set_option linter.unusedVariables false
set_option linter.unusedSimpArgs false

theorem own : ownKnob Try.prog.godebug = none := by kernel_rfl

set_option maxHeartbeats 4000000 in
theorem walk (s a l n p x : Int) (w : World) :
    Calls Try.prog 3 #[.agg #[.int .i64 s, .int .i64 a, .int .i64 l, .int .i64 n, .int .i64 p, .int .i64 x]] w fun e w' => e = .returned (.bool true) ∧ Up w w' := by
  have ht := Lib.hid (take_any s a l n)
  have hrt := Lib.hid (rtake_any s a l n)
  have hm := Lib.hid (most_any s a l n)
  have hrm := Lib.hid (rmost_any s a l n)
  have hr := Lib.hid (right_any s a l)
  have hrr := Lib.hid (rright s a l)
  have hl := Lib.hid (left_any s a l)
  have hrl := Lib.hid (rleft s a l)
  have hn := Lib.hid (new_any p x)
  have hrn := Lib.hid (rnew p x)
  generalize tka s a l n = ka at *
  generalize tkw s a l n = kw at *
  generalize tke s a l n = ke at *
  generalize msa s a l n = ma at *
  generalize msw s a l n = mw at *
  generalize msk s a l n = mk at *
  generalize rgb s a l = rb at *
  generalize lft s a l = lf at *
  generalize nws p = np at *
  generalize nwl x = nx at *
  have q1 := eq_self s ka l
  have q2 := eq_self s ma l
  have q3 := eq_self np 0 nx
  go_enter Try.func3, Try.ntmps3
  go_wp2_with (fail)
  refine (shown_any _).mono ?_
  rintro e w1 ⟨rfl, k1⟩
  have A := ((Blk.new w 25 #[.int .i64 s, .int .i64 a, .int .i64 l, .int .i64 n, .int .i64 p, .int .i64 x]).alloc (.cells #[.int .i64 s, .int .i64 a, .int .i64 l] 23)).up k1
  have D := (Blk.new' (w.alloc (.cells #[.int .i64 s, .int .i64 a, .int .i64 l, .int .i64 n, .int .i64 p, .int .i64 x] 25)) (g := w.heap.size + 1) (by simp) 23 #[.int .i64 s, .int .i64 a, .int .i64 l]).up k1
  have U := (((Up.refl w).alloc (.cells #[.int .i64 s, .int .i64 a, .int .i64 l, .int .i64 n, .int .i64 p, .int .i64 x] 25)).alloc (.cells #[.int .i64 s, .int .i64 a, .int .i64 l] 23)).trans k1
  clear k1
  have Ac := A.cell
  have Af := A.frozen
  have Al := A.lt
  have Dc := D.cell
  have Df := D.frozen
  have Dl := D.lt
  go_wp2_with (fail)
  refine (ht.out _).mono ?_
  rintro e w2 ⟨rfl, k2⟩
  replace A := A.up k2
  replace D := D.up k2
  replace U := U.trans k2
  clear Ac Af Al Dc Df Dl
  clear k2
  have Ac := A.cell
  have Af := A.frozen
  have Al := A.lt
  have Dc := D.cell
  have Df := D.frozen
  have Dl := D.lt
  go_wp2_with (fail)
  refine (hrt.out _).mono ?_
  rintro e w3 ⟨rfl, k3⟩
  replace A := (A.alloc (.cells #[.int .i64 s, .int .i64 ka, .int .i64 l] 23)).up k3
  replace D := (D.alloc (.cells #[.int .i64 s, .int .i64 ka, .int .i64 l] 23)).up k3
  have K1 := (Blk.new w2 23 #[.int .i64 s, .int .i64 ka, .int .i64 l]).up k3
  replace U := (U.alloc (.cells #[.int .i64 s, .int .i64 ka, .int .i64 l] 23)).trans k3
  clear Ac Af Al Dc Df Dl
  clear k3
  have Ac := A.cell
  have Af := A.frozen
  have Al := A.lt
  have Dc := D.cell
  have Df := D.frozen
  have Dl := D.lt
  have K1c := K1.cell
  have K1f := K1.frozen
  have K1l := K1.lt
  go_wp2_with (fail)
  refine (hm.out _).mono ?_
  rintro e w4 ⟨rfl, k4⟩
  replace A := (A.alloc (.cells #[.int .i64 s, .int .i64 ka, .int .i64 l] 23)).up k4
  replace D := (D.alloc (.cells #[.int .i64 s, .int .i64 ka, .int .i64 l] 23)).up k4
  replace K1 := (K1.alloc (.cells #[.int .i64 s, .int .i64 ka, .int .i64 l] 23)).up k4
  have K2 := (Blk.new w3 23 #[.int .i64 s, .int .i64 ka, .int .i64 l]).up k4
  replace U := (U.alloc (.cells #[.int .i64 s, .int .i64 ka, .int .i64 l] 23)).trans k4
  clear Ac Af Al Dc Df Dl K1c K1f K1l
  clear k4
  have Ac := A.cell
  have Af := A.frozen
  have Al := A.lt
  have Dc := D.cell
  have Df := D.frozen
  have Dl := D.lt
  have K1c := K1.cell
  have K1f := K1.frozen
  have K1l := K1.lt
  have K2c := K2.cell
  have K2f := K2.frozen
  have K2l := K2.lt
  go_wp2_with (fail)
  refine (hrm.out _).mono ?_
  rintro e w5 ⟨rfl, k5⟩
  replace A := (A.alloc (.cells #[.int .i64 s, .int .i64 ma, .int .i64 l] 23)).up k5
  replace D := (D.alloc (.cells #[.int .i64 s, .int .i64 ma, .int .i64 l] 23)).up k5
  replace K1 := (K1.alloc (.cells #[.int .i64 s, .int .i64 ma, .int .i64 l] 23)).up k5
  replace K2 := (K2.alloc (.cells #[.int .i64 s, .int .i64 ma, .int .i64 l] 23)).up k5
  have K3 := (Blk.new w4 23 #[.int .i64 s, .int .i64 ma, .int .i64 l]).up k5
  replace U := (U.alloc (.cells #[.int .i64 s, .int .i64 ma, .int .i64 l] 23)).trans k5
  clear Ac Af Al Dc Df Dl K1c K1f K1l K2c K2f K2l
  clear k5
  have Ac := A.cell
  have Af := A.frozen
  have Al := A.lt
  have Dc := D.cell
  have Df := D.frozen
  have Dl := D.lt
  have K1c := K1.cell
  have K1f := K1.frozen
  have K1l := K1.lt
  have K2c := K2.cell
  have K2f := K2.frozen
  have K2l := K2.lt
  have K3c := K3.cell
  have K3f := K3.frozen
  have K3l := K3.lt
  have D0 := (D.alloc (.cells #[.int .i64 s, .int .i64 ma, .int .i64 l] 23)).drew
  have K10 := (K1.alloc (.cells #[.int .i64 s, .int .i64 ma, .int .i64 l] 23)).drew
  have K20 := (K2.alloc (.cells #[.int .i64 s, .int .i64 ma, .int .i64 l] 23)).drew
  have K30 := (K3.alloc (.cells #[.int .i64 s, .int .i64 ma, .int .i64 l] 23)).drew
  have K40 := (Blk.new w5 23 #[.int .i64 s, .int .i64 ma, .int .i64 l]).drew
  have UW := (U.alloc (.cells #[.int .i64 s, .int .i64 ma, .int .i64 l] 23)).drew
  have U0 := Up.refl (w5.alloc (.cells #[.int .i64 s, .int .i64 ma, .int .i64 l] 23)).drew
  clear A Ac Af Al D Dc Df Dl K1 K1c K1f K1l K2 K2c K2f K2l K3 K3c K3f K3l U
  go_wp2_with (fail)
  go_region_held3 (fun w' => (∀ i, w'.cell? ⟨w.heap.size + 1, i, none⟩ = (#[.int .i64 s, .int .i64 a, .int .i64 l] : Array Value)[i]?) ∧ (∀ i, w'.cell? ⟨w2.heap.size, i, none⟩ = (#[.int .i64 s, .int .i64 ka, .int .i64 l] : Array Value)[i]?) ∧ (∀ i, w'.cell? ⟨w3.heap.size, i, none⟩ = (#[.int .i64 s, .int .i64 ka, .int .i64 l] : Array Value)[i]?) ∧ (∀ i, w'.cell? ⟨w4.heap.size, i, none⟩ = (#[.int .i64 s, .int .i64 ma, .int .i64 l] : Array Value)[i]?) ∧ (∀ i, w'.cell? ⟨w5.heap.size, i, none⟩ = (#[.int .i64 s, .int .i64 ma, .int .i64 l] : Array Value)[i]?))
    (exact ⟨fun i => (Blk.up D0 (by assumption)).cell i, fun i => (Blk.up K10 (by assumption)).cell i, fun i => (Blk.up K20 (by assumption)).cell i, fun i => (Blk.up K30 (by assumption)).cell i, fun i => (Blk.up K40 (by assumption)).cell i⟩)
    (first
      | (go_at_call 13; ((with_reducible refine (hr.out _).mono ?_); rintro e wz ⟨rfl, hz⟩; have UZ := Up.trans (a := (w5.alloc (.cells #[.int .i64 s, .int .i64 ma, .int .i64 l] 23)).drew) (by assumption) hz))
      | (go_at_call 14; ((with_reducible refine (hrr.out _).mono ?_); rintro e wz ⟨rfl, hz⟩; have UZ := Up.trans (a := (w5.alloc (.cells #[.int .i64 s, .int .i64 ma, .int .i64 l] 23)).drew) (by assumption) hz))
      | (go_at_call 15; ((with_reducible refine (hl.out _).mono ?_); rintro e wz ⟨rfl, hz⟩; have UZ := Up.trans (a := (w5.alloc (.cells #[.int .i64 s, .int .i64 ma, .int .i64 l] 23)).drew) (by assumption) hz))
      | (go_at_call 16; ((with_reducible refine (hrl.out _).mono ?_); rintro e wz ⟨rfl, hz⟩; have UZ := Up.trans (a := (w5.alloc (.cells #[.int .i64 s, .int .i64 ma, .int .i64 l] 23)).drew) (by assumption) hz))
      | (go_at_call 17; ((with_reducible refine (hn.out _).mono ?_); rintro e wz ⟨rfl, hz⟩; have UZ := Up.trans (a := (w5.alloc (.cells #[.int .i64 s, .int .i64 ma, .int .i64 l] 23)).drew) (by assumption) hz))
      | (go_at_call 18; ((with_reducible refine (hrn.out _).mono ?_); rintro e wz ⟨rfl, hz⟩; have UZ := Up.trans (a := (w5.alloc (.cells #[.int .i64 s, .int .i64 ma, .int .i64 l] 23)).drew) (by assumption) hz)))
  all_goals
    go_wp2
    go_ret
    exact ⟨rfl, UW.trans UZ⟩

theorem cells_in : Try.prog.cellsOf 25 = 6 := by kernel_rfl
section
variable {H : Type} {enc : TypeId × Value → H} {w : World}
theorem int_open {fuel : Nat} {v : Value} {x : DataW H × List MemPlace} (h : DataW.trod enc Try.prog w 0 (fun _ => true) true fuel 3 [v] = some x) : ∃ n : Int, v = .int .i64 n := by
  obtain ⟨n, e, _, hw⟩ := DataW.trod_int Try.underlying3 h
  simp only [List.cons.injEq, and_true] at e
  exact ⟨n, e⟩
theorem bump_cells {fuel : Nat} {v0 v1 v2 : Value} {x : DataW H × List MemPlace} (h : DataW.trod enc Try.prog w 0 (fun _ => true) true fuel 23 [v0, v1, v2] = some x) : ∃ s a l : Int, v0 = .int .i64 s ∧ v1 = .int .i64 a ∧ v2 = .int .i64 l := by
  obtain ⟨ys, n, _, _, _, hlen, hf⟩ := DataW.trod_struct Try.underlying23 h
  have f0 := hf 0 _ rfl
  have f1 := hf 1 _ rfl
  have f2 := hf 2 _ rfl
  match ys, hlen with
  | [y0, y1, y2], _ =>
    change DataW.trod enc Try.prog w 0 (fun _ => true) true n 3 (([v0, v1, v2].drop 0).take (Try.prog.cellsOf 3)) = some y0 at f0
    change DataW.trod enc Try.prog w 0 (fun _ => true) true n 3 (([v0, v1, v2].drop 1).take (Try.prog.cellsOf 3)) = some y1 at f1
    change DataW.trod enc Try.prog w 0 (fun _ => true) true n 3 (([v0, v1, v2].drop 2).take (Try.prog.cellsOf 3)) = some y2 at f2
    rw [cells_int] at f0 f1 f2
    obtain ⟨s, rfl⟩ := int_open (v := v0) f0
    obtain ⟨a, rfl⟩ := int_open (v := v1) f1
    obtain ⟨l, rfl⟩ := int_open (v := v2) f2
    exact ⟨s, a, l, rfl, rfl, rfl⟩
set_option maxRecDepth 100000 in
theorem opened {r : Reach} {b0 : Nat} {vl_ : Value} {d : DataW H} {p : List MemPlace} (hvl_ : Value.okWide Try.prog w r b0 25 vl_) (h_ : DataW.Trod enc Try.prog w 0 (fun _ => true) true 25 vl_ d p) :
    ∃ s a l n q x : Int, vl_ = .agg #[.int .i64 s, .int .i64 a, .int .i64 l, .int .i64 n, .int .i64 q, .int .i64 x] := by
  obtain ⟨⟨li⟩, rfl, hsz⟩ := okWide_struct Try.underlying25 hvl_
  match li, hsz.trans cells_in with
  | [z0_, z1_, z2_, z3_, z4_, z5_], _ =>
    obtain ⟨fuel, hf_⟩ := h_
    obtain ⟨ys_, n_, _, _, _, hlen_, hg_⟩ := DataW.trod_struct Try.underlying25 hf_
    have f0_ := hg_ 0 _ rfl
    have f1_ := hg_ 1 _ rfl
    have f2_ := hg_ 2 _ rfl
    have f3_ := hg_ 3 _ rfl
    match ys_, hlen_ with
    | [y0_, y1_, y2_, y3_], _ =>
      change DataW.trod enc Try.prog w 0 (fun _ => true) true n_ 23 (([z0_, z1_, z2_, z3_, z4_, z5_].drop 0).take (Try.prog.cellsOf 23)) = some y0_ at f0_
      rw [cells_bump] at f0_
      change DataW.trod enc Try.prog w 0 (fun _ => true) true n_ 3 (([z0_, z1_, z2_, z3_, z4_, z5_].drop 3).take (Try.prog.cellsOf 3)) = some y1_ at f1_
      rw [cells_int] at f1_
      change DataW.trod enc Try.prog w 0 (fun _ => true) true n_ 3 (([z0_, z1_, z2_, z3_, z4_, z5_].drop 4).take (Try.prog.cellsOf 3)) = some y2_ at f2_
      rw [cells_int] at f2_
      change DataW.trod enc Try.prog w 0 (fun _ => true) true n_ 3 (([z0_, z1_, z2_, z3_, z4_, z5_].drop 5).take (Try.prog.cellsOf 3)) = some y3_ at f3_
      rw [cells_int] at f3_
      obtain ⟨s, a, l, rfl, rfl, rfl⟩ := bump_cells (v0 := z0_) (v1 := z1_) (v2 := z2_) f0_
      obtain ⟨n, rfl⟩ := int_open (v := z3_) f1_
      obtain ⟨q, rfl⟩ := int_open (v := z4_) f2_
      obtain ⟨x, rfl⟩ := int_open (v := z5_) f3_
      exact ⟨s, a, l, n, q, x, rfl⟩
end

set_option maxRecDepth 100000 in
theorem lifted (os : Os) (started : os.Started) (H : Type) (enc : TypeId × Value → H) :
    ReturnsInHanded {} Try.checked os 3 .any (Rows.bumpTellsSpec.pre6 enc Try.prog Try.f3 Rows.bumpTellsRow.domain false) (Rows.bumpTellsSpec.post enc Try.prog Try.f3 false true false false) := by
  refine returnsInHanded_of_change (C := Try.checked) own started (by kernel_rfl) Try.func3
    (ChangeSpec.witness6 (enc := enc) (C := Try.checked) false ⟨#[], #[.agg #[.int .i64 0, .int .i64 0, .int .i64 0, .int .i64 0, .int .i64 0, .int .i64 0]], []⟩ 8 (by kernel_rfl) (by kernel_rfl) (by kernel_rfl) (by kernel_rfl)) ?_
  intro W base args ds gs before hval0 hW hcnd _
  have hval : ∀ (j : Nat) t v, Try.f3.params[j]? = some t → args[j]? = some v → Value.okWide Try.prog W .any base t v := hval0
  have hW' := hW
  obtain ⟨p, q, hA0, hV, rfl, hfz, hnd⟩ := hW
  have hA : DataW.TrodAll enc Try.prog W 0 (fun _ => true) true Try.f3.params.toList args.toList ds p := hA0
  rw [Try.params3] at hA hval
  obtain ⟨v0, vs0, d0, ds0, p0, q0, hargs, rfl, rfl, h0, r0⟩ := trodAll_cons hA
  obtain ⟨rfl, rfl, rfl⟩ := trodAll_nil r0
  obtain rfl : args = #[v0] := by cases args; simp_all
  obtain ⟨rfl, rfl⟩ := trodVars_none hV
  have h0k := h0
  obtain ⟨s, a, l, n, k, x, rfl⟩ := opened (hval 0 25 v0 rfl rfl) h0
  clear hA0 hval0
  simp only [List.append_nil] at hW'
  refine (walk s a l n k x W).mono fun e W' ⟨he, hg⟩ => ?_
  subst he
  exact ⟨_, rfl, post_below (pa := p0) (pv := []) hW' (fun _ _ _ => (trodAll_cons_mk (shut_bool Try.underlying4 _) trodAll_mk0)) 
    (fun sp hsp => by
      have t := trodAll_cons_mk (trod_keeps (sp := sp) (by kernel_rfl) (of_decide_eq_true (by kernel_rfl)) h0k hg (fun x hx => hW'.lt x hx) (fun x hx => hsp x hx)) trodAll_mk0
      rw [List.append_nil] at t
      exact t) (fun _ _ => rfl) (by simp)
    hg (ok_one (by kernel_rfl) rfl (okWide_bool_mk Try.underlying4 _))⟩

theorem over : Rows.bumpTellsRow.holds Try.pinned (OpenSpec.ofChange Rows.bumpTellsSpec) :=
  OpenClaim.holds_of_wide 3 Try.f3 rfl rfl rfl rfl rfl rfl rfl ⟨rfl, rfl, rfl, rfl, rfl⟩ rfl rfl rfl rfl rfl (by kernel_rfl) Try.func3 (by kernel_rfl)
    (of_decide_eq_true (by kernel_rfl)) (by unfold Func.isWrapper; first | (rw [if_pos (by decide +kernel)]; kernel_rfl) | (rw [if_neg (by decide +kernel)]; exact ⟨rfl, rfl⟩))
    (fun os started H enc _ => lifted os started H enc)

theorem proved : Rows.BumpTellsSaid :=
  over
#print axioms proved
end Go.Proofs.Ytgjalgfdpecbpaa.LBumpTells
