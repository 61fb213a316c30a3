/- ViewFlip, of all graphs that a machine can hold: it tells true, and changes nothing that it was handed. -/
import Derived.Test.YtanhhkdoejnpiaaGreatMc
namespace Go.Proofs.YtanhhkdoejnpiaaGreat.LViewFlip
open G
open Go.Joins Go.ChangeShapes Go.WideShapes Go.ChangeAt Go.RowKit Go.Deep Go.Shelf Go.Maps
set_option linter.unusedVariables false
set_option linter.unusedSimpArgs false

set_option maxRecDepth 100000 in
theorem graph_at {H : Type} {enc : TypeId × Value → H} {w : World} {r : Reach} {b0 : Nat} {v : Value} {d : DataW H} {p : List MemPlace} (hv : Value.okWide Tryz.prog w r b0 30 v) (h : DataW.Trod enc Tryz.prog w 0 (fun _ => true) true 30 v d p) :
    ∃ g, GrV w v g ∧ GrIn g (Rows.uptoBulk d) := by
  obtain ⟨⟨l⟩, rfl, hsz⟩ := okWide_struct Tryz.underlying30 hv
  obtain ⟨fuel, hf⟩ := h
  obtain ⟨a, b, g, e, h1, h2⟩ := graph_cells (x := (d, p)) (cs := l) hf
  subst e
  exact ⟨g, h1, h2⟩
set_option maxRecDepth 100000 in
set_option maxHeartbeats 16000000 in
theorem walk (v0 : Value) (a : Gr) (s : Int) (B0 : Nat) (w : World) (ha : GrV w v0 a) (hia : GrIn a B0) (hB0 : B0 ≤ 1048576) :
    Calls Tryz.prog 5 #[v0, .int .i64 s] w fun e w' => e = .returned (.bool true) ∧ Up w w' := by
  obtain ⟨Aa, ca, Ba, da, rfl, ma1, ma2⟩ := ha.form
  have HSH := Lib.hid shown_any
  have HSA := Lib.hid (fun W' u (hu : GrV W' u a) => small_any u a W' hu (fun n hn => (hia.nd n hn).1))
  obtain ⟨W4, hW4⟩ : ∃ W : Nat, 400 = W := ⟨_, rfl⟩
  by_cases sa : smallb a = true
  · have hSa := (small_of sa hia hB0).1
    rw [sa] at HSA
    by_cases hp : pte a 400 s = 0
    · have HPT : Hid (∀ V u, GrV V u a → Calls Tryz.prog 13 #[u, .int .i64 400, .int .i64 s] V (PtY a W4 a.2.length s V)) := Lib.hid (by subst hW4; exact fun V u hu => put_yes (W := 400) hSa hp rfl V u hu)
      have hp4 : pte a W4 s = 0 := by subst hW4; exact hp
      have HCY := Lib.hid (fun P Q c d v V hm hwf hr => copy_of hSa hp4 P Q c d v V hm hwf hr)
      have HVW := Lib.hid (fun P Q c d v V hm hwf hr => put_words hSa hp4 P Q c d v V hm hwf hr)
      obtain ⟨t, ht⟩ : ∃ t : Int, ((wordsO a : Nat) : Int) = t := ⟨_, rfl⟩
      rw [ht] at HCY HVW
      have hqq : (t == t) = true := by simp
      have sa0 := ha
      clear ha hia hB0 hSa hp hp4 hW4 sa ht
      generalize a.1.length = na at *
      generalize a.2.length = sa at *
      go_enter Tryz.func5, Tryz.ntmps5
      go_wp2_with (fail)
      refine calls_at (fun V1 hV => ?_)
      have kv : Up w V1 := by rw [hV]; (repeat (first | with_reducible exact Up.refl _ | with_reducible refine Up.alloc ?_ _ | with_reducible refine Up.drew ?_ | refine Up.setCell ?_ (by simp <;> omega) _))
      have bAv : Blk V1 (w.heap.size) 30 #[.slice Aa na ca, .slice Ba sa da] := by rw [hV]; (repeat (first | with_reducible exact Blk.new' _ (by simp) _ _ | with_reducible refine Blk.alloc ?_ _ | with_reducible refine Blk.drew ?_ | refine Blk.far ?_ (by simp <;> omega) _))
      have Uv : Up w V1 := kv
      have sav := sa0.up kv
      clear hV kv sa0
      refine (HSH.out V1).mono ?_
      rintro e w1 ⟨rfl, k1⟩
      have bA1 := bAv.up k1
      have U1 := Uv.trans k1
      have sa1 := sav.up k1
      clear k1 Uv bAv sav
      have bA1c := bA1.cell
      have bA1f := bA1.frozen
      have bA1l := bA1.lt
      go_wp2_with (fail)
      refine calls_at (fun V2 hV => ?_)
      have kv : Up w1 V2 := by rw [hV]; (repeat (first | with_reducible exact Up.refl _ | with_reducible refine Up.alloc ?_ _ | with_reducible refine Up.drew ?_ | refine Up.setCell ?_ (by simp <;> omega) _))
      have bAv := bA1.up kv
      have Uv : Up w V2 := U1.trans kv
      have sav := sa1.up kv
      clear hV kv bA1 bA1c bA1f bA1l U1 sa1
      refine (HSA.out V2 _ sav).mono ?_
      rintro e w2 ⟨rfl, k2⟩
      have bA2 := bAv.up k2
      have U2 := Uv.trans k2
      have sa2 := sav.up k2
      clear k2 Uv bAv sav
      have bA2c := bA2.cell
      have bA2f := bA2.frozen
      have bA2l := bA2.lt
      go_wp2_with (fail)
      refine calls_at (fun V3 hV => ?_)
      have kv : Up w2 V3 := by rw [hV]; (repeat (first | with_reducible exact Up.refl _ | with_reducible refine Up.alloc ?_ _ | with_reducible refine Up.drew ?_ | refine Up.setCell ?_ (by simp <;> omega) _))
      have bAv := bA2.up kv
      have Uv : Up w V3 := U2.trans kv
      have sav := sa2.up kv
      clear hV kv bA2 bA2c bA2f bA2l U2 sa2
      refine (HPT.out V3 _ sav).mono ?_
      rintro e w3 ⟨PM, QM, cM, dM, BR, kR, rfl, sM3, HWFM, sR3, k3⟩
      have bA3 := bAv.up k3
      have U3 := Uv.trans k3
      have sa3 := sav.up k3
      clear k3 Uv bAv sav
      have bA3c := bA3.cell
      have bA3f := bA3.frozen
      have bA3l := bA3.lt
      go_wp2_with (fail)
      refine calls_at (fun V4 hV => ?_)
      have kv : Up w3 V4 := by rw [hV]; (repeat (first | with_reducible exact Up.refl _ | with_reducible refine Up.alloc ?_ _ | with_reducible refine Up.drew ?_ | refine Up.setCell ?_ (by simp <;> omega) _))
      have bAv := bA3.up kv
      have bMv : Blk V4 (w3.heap.size) 25 #[.int .i64 W4, .slice (some PM) W4 cM, .slice (some QM) W4 dM] := by rw [hV]; (repeat (first | with_reducible exact Blk.new' _ (by simp) _ _ | with_reducible refine Blk.alloc ?_ _ | with_reducible refine Blk.drew ?_ | refine Blk.far ?_ (by simp <;> omega) _))
      have Uv : Up w V4 := U3.trans kv
      have sav := sa3.up kv
      have sMv := sM3.up kv
      have sRv := sR3.up kv
      clear hV kv bA3 bA3c bA3f bA3l U3 sa3 sM3 sR3
      refine (HCY.out PM QM cM dM _ V4 sMv HWFM sRv).mono ?_
      rintro e w4 ⟨PF, QF, cF, dF, AF, nF, kF, rfl, sF4, k4⟩
      have bA4 := bAv.up k4
      have bM4 := bMv.up k4
      have U4 := Uv.trans k4
      have sa4 := sav.up k4
      have sM4 := sMv.up k4
      have sR4 := sRv.up k4
      clear k4 Uv bAv bMv sav sMv sRv
      have bA4c := bA4.cell
      have bA4f := bA4.frozen
      have bA4l := bA4.lt
      have bM4c := bM4.cell
      have bM4f := bM4.frozen
      have bM4l := bM4.lt
      go_wp2_with (fail)
      obtain ⟨W0, hW0⟩ : ∃ W0 : World, W0 = (w4.alloc (.cells #[.int .i64 W4, .slice (some PF) W4 cF, .slice (some QF) W4 dF, .int .i64 (1 - s), .int .i64 t, .int .i64 W4, .int .i64 0, .int .i64 0, .slice AF nF kF] 60)).drew := ⟨_, rfl⟩
      have U0 : Up W0 (w4.alloc (.cells #[.int .i64 W4, .slice (some PF) W4 cF, .slice (some QF) W4 dF, .int .i64 (1 - s), .int .i64 t, .int .i64 W4, .int .i64 0, .int .i64 0, .slice AF nF kF] 60)).drew := by rw [hW0]; exact Up.refl _
      have k0 : Up w4 W0 := by rw [hW0]; exact ((Up.refl _).alloc _).drew
      have bA0 := bA4.up k0
      have bM0 := bM4.up k0
      have bF0 : Blk W0 (w4.heap.size) 60 #[.int .i64 W4, .slice (some PF) W4 cF, .slice (some QF) W4 dF, .int .i64 (1 - s), .int .i64 t, .int .i64 W4, .int .i64 0, .int .i64 0, .slice AF nF kF] := by rw [hW0]; exact Blk.drew (Blk.new' _ (by simp) _ _)
      have sa0 := sa4.up k0
      have sM0 := sM4.up k0
      have sR0 := sR4.up k0
      have sF0 := sF4.up k0
      have UW0 := U4.trans k0
      clear hW0 k0 bA4 bA4c bA4f bA4l bM4 bM4c bM4f bM4l U4 sa4 sM4 sR4 sF4
      go_region_held3 (fun w' => (∀ zi, w'.cell? ⟨w.heap.size, zi, none⟩ = (#[.slice Aa na ca, .slice Ba sa da] : Array Value)[zi]?) ∧ (∀ zi, w'.cell? ⟨w3.heap.size, zi, none⟩ = (#[.int .i64 W4, .slice (some PM) W4 cM, .slice (some QM) W4 dM] : Array Value)[zi]?) ∧ (∀ zi, w'.cell? ⟨w4.heap.size, zi, none⟩ = (#[.int .i64 W4, .slice (some PF) W4 cF, .slice (some QF) W4 dF, .int .i64 (1 - s), .int .i64 t, .int .i64 W4, .int .i64 0, .int .i64 0, .slice AF nF kF] : Array Value)[zi]?))
        (exact ⟨fun zi => (Blk.up bA0 (by assumption)).cell zi, fun zi => (Blk.up bM0 (by assumption)).cell zi, fun zi => (Blk.up bF0 (by assumption)).cell zi⟩)
        (first
          | (go_at_call 20; ((with_reducible refine (sF0.al _ (by assumption) _ (sa0.up (by assumption))).mono ?_); rintro e wz ⟨rfl, hz⟩; have UZ := Up.trans (a := W0) (by assumption) hz))
          | (go_at_call 18; ((with_reducible refine (HVW.out PM QM cM dM _ _ (sM0.up (by assumption)) HWFM (sR0.up (by assumption))).mono ?_); rintro e wz ⟨rfl, hz⟩; have UZ := Up.trans (a := W0) (by assumption) hz))
          | (go_at_call 18; ((with_reducible refine (sF0.wo _ (by assumption)).mono ?_); rintro e wz ⟨rfl, hz⟩; have UZ := Up.trans (a := W0) (by assumption) hz)))
      all_goals
        obtain ⟨w5, hww⟩ : ∃ z : World, z = wz := ⟨_, rfl⟩
        subst hww
        have bA5 := bA0.up UZ
        have bM5 := bM0.up UZ
        have bF5 := bF0.up UZ
        have sa5 := sa0.up UZ
        have sM5 := sM0.up UZ
        have sR5 := sR0.up UZ
        have sF5 := sF0.up UZ
        have U5 := UW0.trans UZ
        clear bA0 bM0 bF0 sa0 sM0 sR0 sF0
        have bA5c := bA5.cell
        have bA5f := bA5.frozen
        have bA5l := bA5.lt
        have bM5c := bM5.cell
        have bM5f := bM5.frozen
        have bM5l := bM5.lt
        have bF5c := bF5.cell
        have bF5f := bF5.frozen
        have bF5l := bF5.lt
        go_wp2
        go_ret
        refine ⟨rfl, ?_⟩
        (repeat (first | with_reducible exact U5 | with_reducible refine Up.alloc ?_ _ | with_reducible refine Up.drew ?_ | refine Up.setCell ?_ (by simp <;> omega) _))
    · obtain ⟨x, hx⟩ : ∃ x, pte a 400 s = x := ⟨_, rfl⟩
      rw [hx] at hp
      have HPT := Lib.hid (fun V u hu => put_no hSa (by unfold I64; omega) hx hp V u hu)
      have hb0 : (x != 0) = true := bne_iff_ne.2 hp
      have sa0 := ha
      clear ha hia hB0 hSa hp hx hW4 sa
      generalize a.1.length = na at *
      generalize a.2.length = sa at *
      go_enter Tryz.func5, Tryz.ntmps5
      go_wp2_with (fail)
      refine calls_at (fun V1 hV => ?_)
      have kv : Up w V1 := by rw [hV]; (repeat (first | with_reducible exact Up.refl _ | with_reducible refine Up.alloc ?_ _ | with_reducible refine Up.drew ?_ | refine Up.setCell ?_ (by simp <;> omega) _))
      have bAv : Blk V1 (w.heap.size) 30 #[.slice Aa na ca, .slice Ba sa da] := by rw [hV]; (repeat (first | with_reducible exact Blk.new' _ (by simp) _ _ | with_reducible refine Blk.alloc ?_ _ | with_reducible refine Blk.drew ?_ | refine Blk.far ?_ (by simp <;> omega) _))
      have Uv : Up w V1 := kv
      have sav := sa0.up kv
      clear hV kv sa0
      refine (HSH.out V1).mono ?_
      rintro e w1 ⟨rfl, k1⟩
      have bA1 := bAv.up k1
      have U1 := Uv.trans k1
      have sa1 := sav.up k1
      clear k1 Uv bAv sav
      have bA1c := bA1.cell
      have bA1f := bA1.frozen
      have bA1l := bA1.lt
      go_wp2_with (fail)
      refine calls_at (fun V2 hV => ?_)
      have kv : Up w1 V2 := by rw [hV]; (repeat (first | with_reducible exact Up.refl _ | with_reducible refine Up.alloc ?_ _ | with_reducible refine Up.drew ?_ | refine Up.setCell ?_ (by simp <;> omega) _))
      have bAv := bA1.up kv
      have Uv : Up w V2 := U1.trans kv
      have sav := sa1.up kv
      clear hV kv bA1 bA1c bA1f bA1l U1 sa1
      refine (HSA.out V2 _ sav).mono ?_
      rintro e w2 ⟨rfl, k2⟩
      have bA2 := bAv.up k2
      have U2 := Uv.trans k2
      have sa2 := sav.up k2
      clear k2 Uv bAv sav
      have bA2c := bA2.cell
      have bA2f := bA2.frozen
      have bA2l := bA2.lt
      go_wp2_with (fail)
      refine calls_at (fun V3 hV => ?_)
      have kv : Up w2 V3 := by rw [hV]; (repeat (first | with_reducible exact Up.refl _ | with_reducible refine Up.alloc ?_ _ | with_reducible refine Up.drew ?_ | refine Up.setCell ?_ (by simp <;> omega) _))
      have bAv := bA2.up kv
      have Uv : Up w V3 := U2.trans kv
      have sav := sa2.up kv
      clear hV kv bA2 bA2c bA2f bA2l U2 sa2
      refine (HPT.out V3 _ sav).mono ?_
      rintro e w3 ⟨rfl, k3⟩
      have bA3 := bAv.up k3
      have U3 := Uv.trans k3
      have sa3 := sav.up k3
      clear k3 Uv bAv sav
      have bA3c := bA3.cell
      have bA3f := bA3.frozen
      have bA3l := bA3.lt
      go_wp2
      go_ret
      refine ⟨rfl, ?_⟩
      (repeat (first | with_reducible exact U3 | with_reducible refine Up.alloc ?_ _ | with_reducible refine Up.drew ?_ | refine Up.setCell ?_ (by simp <;> omega) _))
  · have sa' : smallb a = false := by simpa using sa
    rw [sa'] at HSA
    have sa0 := ha
    clear ha hia hB0 hW4 sa sa'
    generalize a.1.length = na at *
    generalize a.2.length = sa at *
    go_enter Tryz.func5, Tryz.ntmps5
    go_wp2_with (fail)
    refine calls_at (fun V1 hV => ?_)
    have kv : Up w V1 := by rw [hV]; (repeat (first | with_reducible exact Up.refl _ | with_reducible refine Up.alloc ?_ _ | with_reducible refine Up.drew ?_ | refine Up.setCell ?_ (by simp <;> omega) _))
    have bAv : Blk V1 (w.heap.size) 30 #[.slice Aa na ca, .slice Ba sa da] := by rw [hV]; (repeat (first | with_reducible exact Blk.new' _ (by simp) _ _ | with_reducible refine Blk.alloc ?_ _ | with_reducible refine Blk.drew ?_ | refine Blk.far ?_ (by simp <;> omega) _))
    have Uv : Up w V1 := kv
    have sav := sa0.up kv
    clear hV kv sa0
    refine (HSH.out V1).mono ?_
    rintro e w1 ⟨rfl, k1⟩
    have bA1 := bAv.up k1
    have U1 := Uv.trans k1
    have sa1 := sav.up k1
    clear k1 Uv bAv sav
    have bA1c := bA1.cell
    have bA1f := bA1.frozen
    have bA1l := bA1.lt
    go_wp2_with (fail)
    refine calls_at (fun V2 hV => ?_)
    have kv : Up w1 V2 := by rw [hV]; (repeat (first | with_reducible exact Up.refl _ | with_reducible refine Up.alloc ?_ _ | with_reducible refine Up.drew ?_ | refine Up.setCell ?_ (by simp <;> omega) _))
    have bAv := bA1.up kv
    have Uv : Up w V2 := U1.trans kv
    have sav := sa1.up kv
    clear hV kv bA1 bA1c bA1f bA1l U1 sa1
    refine (HSA.out V2 _ sav).mono ?_
    rintro e w2 ⟨rfl, k2⟩
    have bA2 := bAv.up k2
    have U2 := Uv.trans k2
    have sa2 := sav.up k2
    clear k2 Uv bAv sav
    have bA2c := bA2.cell
    have bA2f := bA2.frozen
    have bA2l := bA2.lt
    go_wp2
    go_ret
    refine ⟨rfl, ?_⟩
    (repeat (first | with_reducible exact U2 | with_reducible refine Up.alloc ?_ _ | with_reducible refine Up.drew ?_ | refine Up.setCell ?_ (by simp <;> omega) _))
theorem own : ownKnob Tryz.prog.godebug = none := by kernel_rfl
set_option maxRecDepth 100000 in
theorem contract (H : Type) (enc : TypeId × Value → H) (W : World) (base : Nat) (args : Array Value) (ds gs : List (DataW H)) (before : List MemPlace)
    (hval0 : ∀ (j : Nat) t v, Tryz.f5.params[j]? = some t → args[j]? = some v → Value.okWide Tryz.prog W .any base t v)
    (hW : DataW.Whole enc Tryz.prog Tryz.f5.params.toList Rows.viewFlipSpec.vars false W args.toList ds gs before) (hk : Rows.uptoSmall H (ds ++ gs) = true) :
    Calls Tryz.prog 5 args W fun e W' => ∃ v, e = .returned v ∧ Rows.viewFlipSpec.post enc Tryz.prog Tryz.f5 false true false false W args v W' := by
  have hval : ∀ (j : Nat) t v, Tryz.f5.params[j]? = some t → args[j]? = some v → Value.okWide Tryz.prog W .any base t v := hval0
  have hW' := hW
  obtain ⟨p, q, hA0, hV, rfl, hfz, hnd⟩ := hW
  have hA : DataW.TrodAll enc Tryz.prog W 0 (fun _ => true) true Tryz.f5.params.toList args.toList ds p := hA0
  rw [Tryz.params5] at hA hval
  obtain ⟨v0, vs0, d0, ds0, p0, q0, hargs, rfl, rfl, h0, r0⟩ := trodAll_cons hA
  obtain ⟨v1, vs1, d1, ds1, p1, q1, rfl, rfl, rfl, h1, r1⟩ := trodAll_cons r0
  obtain ⟨rfl, rfl, rfl⟩ := trodAll_nil r1
  obtain rfl : args = #[v0, v1] := by cases args; simp_all
  obtain ⟨rfl, rfl⟩ := trodVars_none hV
  have hbk : Rows.uptoBulkAll [d0, d1] ≤ 1048576 := of_decide_eq_true hk
  simp only [Rows.uptoBulkAll] at hbk
  clear hk
  have h0k := h0
  obtain ⟨g0, hg0, hi0⟩ := graph_at (hval 0 30 v0 rfl rfl) h0
  obtain ⟨a1, rfl, rfl, rfl, w1⟩ := open_int Tryz.underlying3 (hval 1 3 v1 rfl rfl) h1
  clear hA0 hval0
  simp only [List.append_nil, List.nil_append] at hW'
  refine (walk v0 g0 a1 (Rows.uptoBulk d0) W hg0 hi0 (by omega)).mono fun e W' ⟨he, hg⟩ => ?_
  subst he
  exact ⟨_, rfl, post_below (pa := p0) (pv := []) hW' (fun _ _ _ => (trodAll_cons_mk (shut_bool Tryz.underlying4 _) trodAll_mk0))
    (fun sp hsp => by
      have t := (trodAll_cons_mk (trod_keeps (sp := sp) (by kernel_rfl) (of_decide_eq_true (by kernel_rfl)) h0k hg (fun x hx => hW'.lt x (by simp [hx])) (fun x hx => hsp x (by simp [hx]))) (trodAll_cons_mk (shut_int Tryz.underlying3 w1) trodAll_mk0))
      simp only [List.append_nil, List.nil_append] at t
      exact t) (fun _ _ => rfl) (by simp)
    hg (ok_one (by kernel_rfl) rfl (okWide_bool_mk Tryz.underlying4 _))⟩

set_option maxRecDepth 100000 in
theorem lifted (os : Os) (started : os.Started) (H : Type) (enc : TypeId × Value → H) (F : Stop.Interp) :
    ReturnsInHanded {} Tryz.checked os 5 .any ((Rows.OpenSpec.upto Rows.viewFlipSpec).pre6 enc Tryz.prog Tryz.f5 Rows.viewFlipUptoRow.domain false) (((Rows.OpenSpec.upto Rows.viewFlipSpec).at F).post enc Tryz.prog Tryz.f5 false true false false) := by
  refine returnsInHanded_of_cond (C := Tryz.checked) (s := Rows.OpenSpec.upto Rows.viewFlipSpec) (k := Rows.uptoSmall) rfl own started (by kernel_rfl) Tryz.func5
    (OpenSpec.witness (enc := enc) (C := Tryz.checked) (s := Rows.OpenSpec.upto Rows.viewFlipSpec) (k := Rows.uptoSmall) rfl false ⟨#[], #[.agg #[.slice none 0 0, .slice none 0 0], .int .i64 0], []⟩ 8 (by kernel_rfl) (by kernel_rfl) (by kernel_rfl)
      (x := ([.agg [.nil, .nil], .lit (.int .i64 0)], [], [])) (by kernel_rfl) rfl (by kernel_rfl)) ?_
  intro W base args ds gs before hval hW _ hk _
  exact contract H enc W base args ds gs before hval hW hk

set_option maxRecDepth 100000 in
theorem over : Rows.viewFlipUptoRow.holds Tryz.pinned (Rows.OpenSpec.upto Rows.viewFlipSpec) :=
  OpenClaim.holds_of_cond 5 Tryz.f5 rfl rfl rfl rfl rfl rfl rfl ⟨rfl, rfl, rfl, rfl, rfl⟩ rfl rfl rfl rfl rfl (by kernel_rfl) Tryz.func5 (by kernel_rfl)
    (of_decide_eq_true (by kernel_rfl)) (by unfold Func.isWrapper; first | (rw [if_pos (by decide +kernel)]; kernel_rfl) | (rw [if_neg (by decide +kernel)]; exact ⟨rfl, rfl⟩))
    (fun os started H enc _ F => lifted os started H enc F)

theorem proved : Rows.ViewFlipUptoSaid :=
  over
#print axioms proved
end Go.Proofs.YtanhhkdoejnpiaaGreat.LViewFlip
