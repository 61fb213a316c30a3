/- ViewRows, of all graphs and numbers: it tells true, and changes nothing that it was handed. -/
import Derived.Test.YtanhhkdoejnpiaaOe
import Derived.BigQuiet
namespace Go.Proofs.Ytanhhkdoejnpiaa.LViewRows
open G
open Go.Joins Go.ChangeShapes Go.WideShapes Go.ChangeAt Go.RowKit Go.Deep Go.Shelf Go.Maps
set_option linter.unusedVariables false
set_option linter.unusedSimpArgs false

abbrev Light {H : Type} (t : TypeId) (d : DataW H) : Prop := ∀ n ∈ d.weights Try.prog t, n ≤ reachBytes
set_option maxRecDepth 100000 in
theorem graph_at {H : Type} {enc : TypeId × Value → H} {w : World} {r : Reach} {b0 : Nat} {v : Value} {d : DataW H} {p : List MemPlace} (hv : Value.okWide Try.prog w r b0 37 v) (h : DataW.Trod enc Try.prog w 0 (fun _ => true) true 37 v d p) :
    ∃ g, GrV w v g ∧ (∀ n ∈ g.1, NdOk n) ∧ (Light 37 d → ∀ row ∈ g.2, row.length ≤ 17592186044416) := by
  obtain ⟨⟨l⟩, rfl, hsz⟩ := okWide_struct Try.underlying37 hv
  obtain ⟨fuel, hf⟩ := h
  obtain ⟨a, b, g, e, h1, h2, h3⟩ := graph_cellsL (x := (d, p)) (cs := l) hf
  subst e
  exact ⟨g, h1, h2, h3⟩
def RwL (n : Nat) (A M : Nat) (ca cb : Array Value) (wj : World) (i : Value) (wr : World) : Prop := ∃ x : Nat, x ≤ n ∧ i = .int .i64 x ∧ Blk wr A 37 ca ∧ Blk wr M 25 cb ∧ Up wj wr
set_option maxRecDepth 100000 in
set_option maxHeartbeats 16000000 in
theorem walk (v0 : Value) (a : Gr) (x s : Int) (w : World) (ha : GrV w v0 a) (hia : ∀ n ∈ a.1, NdOk n) (hra : ∀ row ∈ a.2, row.length ≤ 17592186044416) (hx : I64 x) :
    Calls Try.prog 4 #[v0, .int .i64 x, .int .i64 s] w fun e w' => e = .returned (.bool true) ∧ Up w w' := by
  obtain ⟨Aa, ca, Ba, da, rfl, ma1, ma2⟩ := ha.form
  have HSH := Lib.hid shown_any
  have HSA := Lib.hid (fun W' u (hu : GrV W' u a) => small_any u a W' hu (fun n hn => (hia n hn).1))
  by_cases sa : smallb a = true
  · have hSa := small_ofL sa hia hra
    have HEN := Lib.hid (fun W' u (hu : GrV W' u a) => rend_any u a W' hu hSa.rg (by have := hSa.n; omega))
    rw [sa] at HSA
    by_cases hw : 400 < x
    · have hw1 : decide (400 < x) = true := decide_eq_true hw
      have hw2 : decide (x > 400) = true := decide_eq_true hw
      have sa0 := ha
      clear ha hia hra hSa hx sa hw HEN
      generalize a.1.length = na at *
      generalize a.2.length = sa at *
      go_enter Try.func4, Try.ntmps4
      go_wp2_with (fail)
      refine calls_at (fun V1 hV => ?_)
      have kv : Up w V1 := by rw [hV]; (repeat (first | with_reducible exact Up.refl _ | with_reducible refine Up.alloc ?_ _ | with_reducible refine Up.drew ?_ | refine Up.setCell ?_ (by simp <;> omega) _))
      have bAv : Blk V1 (w.heap.size) 37 #[.slice Aa na ca, .slice Ba sa da] := by rw [hV]; (repeat (first | with_reducible exact Blk.new' _ (by simp) _ _ | with_reducible refine Blk.alloc ?_ _ | with_reducible refine Blk.drew ?_ | refine Blk.far ?_ (by simp <;> omega) _))
      have Uv : Up w V1 := kv
      have sav := sa0.up kv
      clear hV kv sa0
      refine (HSH.out V1).mono ?_
      rintro e w1 ⟨rfl, k1⟩
      have bA1 := bAv.up k1
      have U1 := Uv.trans k1
      have sa1 := sav.up k1
      clear k1 Uv bAv sav
      have bA1c := bA1.cell
      have bA1f := bA1.frozen
      have bA1l := bA1.lt
      go_wp2_with (fail)
      refine calls_at (fun V2 hV => ?_)
      have kv : Up w1 V2 := by rw [hV]; (repeat (first | with_reducible exact Up.refl _ | with_reducible refine Up.alloc ?_ _ | with_reducible refine Up.drew ?_ | refine Up.setCell ?_ (by simp <;> omega) _))
      have bAv := bA1.up kv
      have Uv : Up w V2 := U1.trans kv
      have sav := sa1.up kv
      clear hV kv bA1 bA1c bA1f bA1l U1 sa1
      refine (HSA.out V2 _ sav).mono ?_
      rintro e w2 ⟨rfl, k2⟩
      have bA2 := bAv.up k2
      have U2 := Uv.trans k2
      have sa2 := sav.up k2
      clear k2 Uv bAv sav
      have bA2c := bA2.cell
      have bA2f := bA2.frozen
      have bA2l := bA2.lt
      go_wp2
      go_ret
      refine ⟨rfl, ?_⟩
      (repeat (first | with_reducible exact U2 | with_reducible refine Up.alloc ?_ _ | with_reducible refine Up.drew ?_ | refine Up.setCell ?_ (by simp <;> omega) _))
    · have hw1 : decide (400 < x) = false := decide_eq_false hw
      have hw2 : decide (x > 400) = false := decide_eq_false hw
      by_cases hp : pte a x s = 0
      · obtain ⟨z1, z2, z3, z4⟩ := pte_0 hp
        obtain ⟨W4, rfl⟩ : ∃ W : Nat, x = W := ⟨x.toNat, by omega⟩
        have HPT := Lib.hid (fun V u hu => putr_yes hSa hp rfl V u hu)
        obtain ⟨va, vb, e0, -, hrw⟩ := id ha
        simp only [Value.agg.injEq, Array.mk.injEq, List.cons.injEq, and_true] at e0
        obtain ⟨rfl, rfl⟩ := e0
        have HSR : Hid (∀ j : Nat, j < a.2.length → ∃ p A1 c1, Ba = some p ∧ ∀ V, Up w V → p.block < V.heap.size ∧ V.cell? (p.add j) = some (.slice A1 (a.2.getD j []).length c1)) := Lib.hid (fun j hj => by
          obtain ⟨p, u, e, h1, h2⟩ := hrw.at_ hj
          obtain ⟨A1, c1, rfl⟩ := h2.slice
          have hl := lt_of_cell h1
          rw [block_of_add] at hl
          exact ⟨p, A1, c1, e, fun V k => ⟨k.lt hl, k.cell h1⟩⟩)
        have hlr : (putR a s).length = a.2.length := by unfold putR; rw [List.length_map]
        have HRR : Hid (∀ V B k, Rw .u64 V (.slice B a.2.length k) (putR a s) → ∀ j : Nat, j < a.2.length → ∃ p A1 c1, B = some p ∧ p.block < V.heap.size ∧ V.cell? (p.add j) = some (.slice A1 (a.2.getD j []).length c1)) := Lib.hid (fun V B k hr j hj => by
          rw [← hlr] at hr
          obtain ⟨p, u, e, h1, h2⟩ := hr.at_ (by rw [hlr]; exact hj)
          obtain ⟨A1, c1, rfl⟩ := h2.slice
          have hl := lt_of_cell h1
          rw [block_of_add] at hl
          rw [show ((putR a s).getD j []).length = (a.2.getD j []).length from by unfold putR; simp [List.getD, List.getElem?_map, List.getElem?_eq_getElem hj]] at h1
          exact ⟨p, A1, c1, e, hl, h1⟩)
        have HOJ := Lib.hid (fun P Q c d V hm hwf => by
          have h := robjs_any a W4 s P Q c d V hm hwf hSa.rg (by have := hSa.n; omega) (by omega) (by omega) z3 (by omega)
          unfold RowP at h
          rw [ads_len] at h
          exact h)
        have HSD := Lib.hid (fun P Q c d V hm hwf => rsound_any a W4 s P Q c d V hm hwf hSa.rg (by have := hSa.n; omega) (by omega) (by omega) z3 (by omega))
        have hsz := hSa.s
        have sa0 := ha
        clear ha hia hra hSa hx sa hw hp z1 z2 z3 z4 hrw hlr
        generalize ((tot a.1 : Nat) : Int) = T at *
        generalize a.1.length = na at *
        generalize a.2.length = sa at *
        go_enter Try.func4, Try.ntmps4
        go_wp2_with (fail)
        refine calls_at (fun V1 hV => ?_)
        have kv : Up w V1 := by rw [hV]; (repeat (first | with_reducible exact Up.refl _ | with_reducible refine Up.alloc ?_ _ | with_reducible refine Up.drew ?_ | refine Up.setCell ?_ (by simp <;> omega) _))
        have bAv : Blk V1 (w.heap.size) 37 #[.slice Aa na ca, .slice Ba sa da] := by rw [hV]; (repeat (first | with_reducible exact Blk.new' _ (by simp) _ _ | with_reducible refine Blk.alloc ?_ _ | with_reducible refine Blk.drew ?_ | refine Blk.far ?_ (by simp <;> omega) _))
        have Uv : Up w V1 := kv
        have sav := sa0.up kv
        clear hV kv sa0
        refine (HSH.out V1).mono ?_
        rintro e w1 ⟨rfl, k1⟩
        have bA1 := bAv.up k1
        have U1 := Uv.trans k1
        have sa1 := sav.up k1
        clear k1 Uv bAv sav
        have bA1c := bA1.cell
        have bA1f := bA1.frozen
        have bA1l := bA1.lt
        go_wp2_with (fail)
        refine calls_at (fun V2 hV => ?_)
        have kv : Up w1 V2 := by rw [hV]; (repeat (first | with_reducible exact Up.refl _ | with_reducible refine Up.alloc ?_ _ | with_reducible refine Up.drew ?_ | refine Up.setCell ?_ (by simp <;> omega) _))
        have bAv := bA1.up kv
        have Uv : Up w V2 := U1.trans kv
        have sav := sa1.up kv
        clear hV kv bA1 bA1c bA1f bA1l U1 sa1
        refine (HSA.out V2 _ sav).mono ?_
        rintro e w2 ⟨rfl, k2⟩
        have bA2 := bAv.up k2
        have U2 := Uv.trans k2
        have sa2 := sav.up k2
        clear k2 Uv bAv sav
        have bA2c := bA2.cell
        have bA2f := bA2.frozen
        have bA2l := bA2.lt
        go_wp2_with (fail)
        refine calls_at (fun V3 hV => ?_)
        have kv : Up w2 V3 := by rw [hV]; (repeat (first | with_reducible exact Up.refl _ | with_reducible refine Up.alloc ?_ _ | with_reducible refine Up.drew ?_ | refine Up.setCell ?_ (by simp <;> omega) _))
        have bAv := bA2.up kv
        have Uv : Up w V3 := U2.trans kv
        have sav := sa2.up kv
        clear hV kv bA2 bA2c bA2f bA2l U2 sa2
        refine (HPT.out V3 _ sav).mono ?_
        rintro e w3 ⟨PM, QM, cM, dM, BR, kR, rfl, sM3, HWFM, sR3, k3⟩
        have bA3 := bAv.up k3
        have U3 := Uv.trans k3
        have sa3 := sav.up k3
        clear k3 Uv bAv sav
        have bA3c := bA3.cell
        have bA3f := bA3.frozen
        have bA3l := bA3.lt
        go_wp2_with (fail)
        refine calls_at (fun V4 hV => ?_)
        have kv : Up w3 V4 := by rw [hV]; (repeat (first | with_reducible exact Up.refl _ | with_reducible refine Up.alloc ?_ _ | with_reducible refine Up.drew ?_ | refine Up.setCell ?_ (by simp <;> omega) _))
        have bAv := bA3.up kv
        have bMv : Blk V4 (w3.heap.size) 25 #[.int .i64 W4, .slice (some PM) W4 cM, .slice (some QM) W4 dM] := by rw [hV]; (repeat (first | with_reducible exact Blk.new' _ (by simp) _ _ | with_reducible refine Blk.alloc ?_ _ | with_reducible refine Blk.drew ?_ | refine Blk.far ?_ (by simp <;> omega) _))
        have Uv : Up w V4 := U3.trans kv
        have sav := sa3.up kv
        have sMv := sM3.up kv
        have sRv := sR3.up kv
        clear hV kv bA3 bA3c bA3f bA3l U3 sa3 sM3 sR3
        refine (HEN.out V4 _ sav).mono ?_
        rintro e w4 ⟨rfl, k4⟩
        have bA4 := bAv.up k4
        have bM4 := bMv.up k4
        have U4 := Uv.trans k4
        have sa4 := sav.up k4
        have sM4 := sMv.up k4
        have sR4 := sRv.up k4
        clear k4 Uv bAv bMv sav sMv sRv
        have bA4c := bA4.cell
        have bA4f := bA4.frozen
        have bA4l := bA4.lt
        have bM4c := bM4.cell
        have bM4f := bM4.frozen
        have bM4l := bM4.lt
        have HBA := Lib.hid bA4
        have HBM := Lib.hid bM4
        have HUJ := Lib.hid U4
        have HSM := Lib.hid (fun V (k : Up w4 V) => sM4.up k)
        have HSW := Lib.hid (fun V (k : Up w4 V) => sR4.up k)
        clear sM4 sR4 sa4
        go_wp2_with (fail)
        generalize hna : (w.heap.size) = NA at *
        generalize hnm : (w3.heap.size) = NM at *
        have HNA := Lib.hid hna
        have HNM := Lib.hid hnm
        clear hna hnm
        go_loopw [13] (fun i wr => RwL sa NA NM #[.slice Aa na ca, .slice Ba sa da] #[.int .i64 W4, .slice (some PM) W4 cM, .slice (some QM) W4 dM] w4 i wr) (fun i _ => sa - (intOf i).toNat)
        case atStart => exact ⟨0, Nat.zero_le _, rfl, HBA.out, HBM.out, Up.refl _⟩
        case round =>
          rename World => wr
          obtain ⟨y, hy, rfl, bA, bM, U⟩ := hrel
          clear bA4c bA4f bA4l bM4c bM4f bM4l bA4 bM4 U4
          have qA := bA.cell
          have lA := bA.lt
          have qM := bM.cell
          have lM := bM.lt
          by_cases hlt : y < sa
          · obtain ⟨p1, A1, c1, e1, h1⟩ := HSR.out y hlt
            obtain ⟨h1l, h1c⟩ := h1 wr (HUJ.out.trans U)
            obtain ⟨p2, A2, c2, e2, h2l, h2c⟩ := HRR.out wr _ _ (HSW.out wr U) y hlt
            subst e1 e2
            generalize (a.2.getD y []).length = rl at *
            have HB1 := Lib.hid bA
            have HB2 := Lib.hid bM
            have HU1 := Lib.hid U
            clear h1 bA bM U
            go_wp2_with (fail)
            go_quiet (fail)
            go_wp2
            exact ⟨⟨y + 1, by omega, by go_num, HB1.out.up (Up.drewN (Up.refl _) _), HB2.out.up (Up.drewN (Up.refl _) _), Up.drewN HU1.out _⟩, by simp [intOf]; omega⟩
          · obtain rfl : y = sa := by omega
            have HU1 := Lib.hid U
            have HB1 := Lib.hid bA
            have HB2 := Lib.hid bM
            clear bA bM U
            go_wp2_with (fail)
            refine (HOJ.out PM QM cM dM _ (HSM.out _ HU1.out) HWFM).mono ?_
            rintro e w7 ⟨A7, c7, rfl, s7, k7⟩
            have bA7 := (HB1.out.up k7).cell
            have lA7 := (HB1.out.up k7).lt
            have bM7 := (HB2.out.up k7).cell
            have lM7 := (HB2.out.up k7).lt
            have HU7 := Lib.hid (HU1.out.trans k7)
            clear k7 s7 qA lA qM lM
            go_wp2_with (fail)
            refine (HSD.out PM QM cM dM _ (HSM.out _ HU7.out) HWFM).mono ?_
            rintro e w8 ⟨rfl, k8⟩
            have HU8 := Lib.hid ((HUJ.out.trans HU7.out).trans k8)
            clear k8 bA7 lA7 bM7 lM7
            go_wp2
            go_ret
            exact ⟨rfl, HU8.out⟩
      · obtain ⟨y, hy⟩ : ∃ y, pte a x s = y := ⟨_, rfl⟩
        have hcs := pte_no (Int.not_lt.1 hw) hp
        rw [hy] at hp
        have HPT := Lib.hid (fun V u hu => putr_no hSa hx hy hp V u hu)
        have hb0 : (y != 0) = true := bne_iff_ne.2 hp
        have hcc : (decide (x < 16) = true) ∨ (decide (x < 16) = false ∧ (s != 0) = true ∧ (s != 1) = true) ∨ (decide (x < 16) = false ∧ (s != 0) = false ∧ decide (((tot a.1 : Nat) : Int) > x) = true) ∨ (decide (x < 16) = false ∧ (s != 0) = true ∧ (s != 1) = false ∧ decide (((tot a.1 : Nat) : Int) > x) = true) := by
          rcases hcs with h | ⟨h1, h2, h3⟩ | ⟨h1, rfl | rfl, h3⟩
          · exact .inl (decide_eq_true h)
          · exact .inr (.inl ⟨decide_eq_false (by omega), bne_iff_ne.2 h2, bne_iff_ne.2 h3⟩)
          · exact .inr (.inr (.inl ⟨decide_eq_false (by omega), rfl, decide_eq_true h3⟩))
          · exact .inr (.inr (.inr ⟨decide_eq_false (by omega), rfl, rfl, decide_eq_true h3⟩))
        have sa0 := ha
        clear ha hia hra hSa hp hy sa hw hx hcs
        generalize ((tot a.1 : Nat) : Int) = T at *
        generalize a.1.length = na at *
        generalize a.2.length = sa at *
        rcases hcc with c1 | ⟨c1, c2, c3⟩ | ⟨c1, c2, c4⟩ | ⟨c1, c2, c3, c4⟩
        all_goals
          go_enter Try.func4, Try.ntmps4
          go_wp2_with (fail)
          refine calls_at (fun V1 hV => ?_)
          have kv : Up w V1 := by rw [hV]; (repeat (first | with_reducible exact Up.refl _ | with_reducible refine Up.alloc ?_ _ | with_reducible refine Up.drew ?_ | refine Up.setCell ?_ (by simp <;> omega) _))
          have bAv : Blk V1 (w.heap.size) 37 #[.slice Aa na ca, .slice Ba sa da] := by rw [hV]; (repeat (first | with_reducible exact Blk.new' _ (by simp) _ _ | with_reducible refine Blk.alloc ?_ _ | with_reducible refine Blk.drew ?_ | refine Blk.far ?_ (by simp <;> omega) _))
          have Uv : Up w V1 := kv
          have sav := sa0.up kv
          clear hV kv sa0
          refine (HSH.out V1).mono ?_
          rintro e w1 ⟨rfl, k1⟩
          have bA1 := bAv.up k1
          have U1 := Uv.trans k1
          have sa1 := sav.up k1
          clear k1 Uv bAv sav
          have bA1c := bA1.cell
          have bA1f := bA1.frozen
          have bA1l := bA1.lt
          go_wp2_with (fail)
          refine calls_at (fun V2 hV => ?_)
          have kv : Up w1 V2 := by rw [hV]; (repeat (first | with_reducible exact Up.refl _ | with_reducible refine Up.alloc ?_ _ | with_reducible refine Up.drew ?_ | refine Up.setCell ?_ (by simp <;> omega) _))
          have bAv := bA1.up kv
          have Uv : Up w V2 := U1.trans kv
          have sav := sa1.up kv
          clear hV kv bA1 bA1c bA1f bA1l U1 sa1
          refine (HSA.out V2 _ sav).mono ?_
          rintro e w2 ⟨rfl, k2⟩
          have bA2 := bAv.up k2
          have U2 := Uv.trans k2
          have sa2 := sav.up k2
          clear k2 Uv bAv sav
          have bA2c := bA2.cell
          have bA2f := bA2.frozen
          have bA2l := bA2.lt
          go_wp2_with (fail)
          refine calls_at (fun V3 hV => ?_)
          have kv : Up w2 V3 := by rw [hV]; (repeat (first | with_reducible exact Up.refl _ | with_reducible refine Up.alloc ?_ _ | with_reducible refine Up.drew ?_ | refine Up.setCell ?_ (by simp <;> omega) _))
          have bAv := bA2.up kv
          have Uv : Up w V3 := U2.trans kv
          have sav := sa2.up kv
          clear hV kv bA2 bA2c bA2f bA2l U2 sa2
          refine (HPT.out V3 _ sav).mono ?_
          rintro e w3 ⟨rfl, k3⟩
          have bA3 := bAv.up k3
          have U3 := Uv.trans k3
          have sa3 := sav.up k3
          clear k3 Uv bAv sav
          have bA3c := bA3.cell
          have bA3f := bA3.frozen
          have bA3l := bA3.lt
          go_wp2_with (fail)
          refine calls_at (fun V4 hV => ?_)
          have kv : Up w3 V4 := by rw [hV]; (repeat (first | with_reducible exact Up.refl _ | with_reducible refine Up.alloc ?_ _ | with_reducible refine Up.drew ?_ | refine Up.setCell ?_ (by simp <;> omega) _))
          have bAv := bA3.up kv
          have bMv : Blk V4 (w3.heap.size) 25 #[.int .i64 0, .slice none 0 0, .slice none 0 0] := by rw [hV]; (repeat (first | with_reducible exact Blk.new' _ (by simp) _ _ | with_reducible refine Blk.alloc ?_ _ | with_reducible refine Blk.drew ?_ | refine Blk.far ?_ (by simp <;> omega) _))
          have Uv : Up w V4 := U3.trans kv
          have sav := sa3.up kv
          clear hV kv bA3 bA3c bA3f bA3l U3 sa3
          refine (HEN.out V4 _ sav).mono ?_
          rintro e w4 ⟨rfl, k4⟩
          have bA4 := bAv.up k4
          have bM4 := bMv.up k4
          have U4 := Uv.trans k4
          have sa4 := sav.up k4
          clear k4 Uv bAv bMv sav
          have bA4c := bA4.cell
          have bA4f := bA4.frozen
          have bA4l := bA4.lt
          have bM4c := bM4.cell
          have bM4f := bM4.frozen
          have bM4l := bM4.lt
          go_wp2
          go_ret
          refine ⟨rfl, ?_⟩
          (repeat (first | with_reducible exact U4 | with_reducible refine Up.alloc ?_ _ | with_reducible refine Up.drew ?_ | refine Up.setCell ?_ (by simp <;> omega) _))
  · have sa' : smallb a = false := by simpa using sa
    rw [sa'] at HSA
    have sa0 := ha
    clear ha hia hra hx sa sa'
    generalize a.1.length = na at *
    generalize a.2.length = sa at *
    go_enter Try.func4, Try.ntmps4
    go_wp2_with (fail)
    refine calls_at (fun V1 hV => ?_)
    have kv : Up w V1 := by rw [hV]; (repeat (first | with_reducible exact Up.refl _ | with_reducible refine Up.alloc ?_ _ | with_reducible refine Up.drew ?_ | refine Up.setCell ?_ (by simp <;> omega) _))
    have bAv : Blk V1 (w.heap.size) 37 #[.slice Aa na ca, .slice Ba sa da] := by rw [hV]; (repeat (first | with_reducible exact Blk.new' _ (by simp) _ _ | with_reducible refine Blk.alloc ?_ _ | with_reducible refine Blk.drew ?_ | refine Blk.far ?_ (by simp <;> omega) _))
    have Uv : Up w V1 := kv
    have sav := sa0.up kv
    clear hV kv sa0
    refine (HSH.out V1).mono ?_
    rintro e w1 ⟨rfl, k1⟩
    have bA1 := bAv.up k1
    have U1 := Uv.trans k1
    have sa1 := sav.up k1
    clear k1 Uv bAv sav
    have bA1c := bA1.cell
    have bA1f := bA1.frozen
    have bA1l := bA1.lt
    go_wp2_with (fail)
    refine calls_at (fun V2 hV => ?_)
    have kv : Up w1 V2 := by rw [hV]; (repeat (first | with_reducible exact Up.refl _ | with_reducible refine Up.alloc ?_ _ | with_reducible refine Up.drew ?_ | refine Up.setCell ?_ (by simp <;> omega) _))
    have bAv := bA1.up kv
    have Uv : Up w V2 := U1.trans kv
    have sav := sa1.up kv
    clear hV kv bA1 bA1c bA1f bA1l U1 sa1
    refine (HSA.out V2 _ sav).mono ?_
    rintro e w2 ⟨rfl, k2⟩
    have bA2 := bAv.up k2
    have U2 := Uv.trans k2
    have sa2 := sav.up k2
    clear k2 Uv bAv sav
    have bA2c := bA2.cell
    have bA2f := bA2.frozen
    have bA2l := bA2.lt
    go_wp2
    go_ret
    refine ⟨rfl, ?_⟩
    (repeat (first | with_reducible exact U2 | with_reducible refine Up.alloc ?_ _ | with_reducible refine Up.drew ?_ | refine Up.setCell ?_ (by simp <;> omega) _))
theorem own : ownKnob Try.prog.godebug = none := by kernel_rfl
set_option maxRecDepth 100000 in
theorem lifted (os : Os) (started : os.Started) (H : Type) (enc : TypeId × Value → H) :
    ReturnsInHanded {} Try.checked os 4 .any (Rows.viewRowsSpec.pre6 enc Try.prog Try.f4 Rows.viewRowsRow.domain false) (Rows.viewRowsSpec.post enc Try.prog Try.f4 false true false false) := by
  refine returnsInHanded_of_change_sized (C := Try.checked) own started (by kernel_rfl) Try.func4
    (ChangeSpec.witness6 (enc := enc) (C := Try.checked) false ⟨#[], #[.agg #[.slice none 0 0, .slice none 0 0], .int .i64 0, .int .i64 0], []⟩ 8 (by kernel_rfl) (by kernel_rfl) (by kernel_rfl) (by kernel_rfl)) ?_
  intro W base args ds gs before hval0 hW hcnd hsz0 _
  have hval : ∀ (j : Nat) t v, Try.f4.params[j]? = some t → args[j]? = some v → Value.okWide Try.prog W .any base t v := hval0
  have hW' := hW
  obtain ⟨p, q, hA0, hV, rfl, hfz, hnd⟩ := hW
  have hA : DataW.TrodAll enc Try.prog W 0 (fun _ => true) true Try.f4.params.toList args.toList ds p := hA0
  rw [Try.params4] at hA hval
  obtain ⟨v0, vs0, d0, ds0, p0, q0, hargs, rfl, rfl, h0, r0⟩ := trodAll_cons hA
  obtain ⟨v1, vs1, d1, ds1, p1, q1, rfl, rfl, rfl, h1, r1⟩ := trodAll_cons r0
  obtain ⟨v2, vs2, d2, ds2, p2, q2, rfl, rfl, rfl, h2, r2⟩ := trodAll_cons r1
  obtain ⟨rfl, rfl, rfl⟩ := trodAll_nil r2
  obtain rfl : args = #[v0, v1, v2] := by cases args; simp_all
  obtain ⟨rfl, rfl⟩ := trodVars_none hV
  have l0 : Light 37 d0 := fun n hn => by
    have := List.all_eq_true.1 hsz0 n (DataW.weights_mem_each (j := 0) (t := 37) (d := d0) (by kernel_rfl) rfl n hn)
    simpa using this
  clear hsz0
  have h0k := h0
  obtain ⟨g0, hg0, hi0, hr0⟩ := graph_at (hval 0 37 v0 rfl rfl) h0
  obtain ⟨a1, rfl, rfl, rfl, w1⟩ := open_int Try.underlying3 (hval 1 3 v1 rfl rfl) h1
  obtain ⟨a2, rfl, rfl, rfl, w2⟩ := open_int Try.underlying3 (hval 2 3 v2 rfl rfl) h2
  clear hA0 hval0
  simp only [List.append_nil, List.nil_append] at hW'
  refine (walk v0 g0 a1 a2 W hg0 hi0 (hr0 l0) (i64_of_wf w1)).mono fun e W' ⟨he, hg⟩ => ?_
  subst he
  exact ⟨_, rfl, post_below (pa := p0) (pv := []) hW' (fun _ _ _ => (trodAll_cons_mk (shut_bool Try.underlying4 _) trodAll_mk0))
    (fun sp hsp => by
      have t := (trodAll_cons_mk (trod_keeps (sp := sp) (by kernel_rfl) (of_decide_eq_true (by kernel_rfl)) h0k hg (fun x hx => hW'.lt x (by simp [hx])) (fun x hx => hsp x (by simp [hx]))) (trodAll_cons_mk (shut_int Try.underlying3 w1) (trodAll_cons_mk (shut_int Try.underlying3 w2) trodAll_mk0)))
      simp only [List.append_nil, List.nil_append] at t
      exact t) (fun _ _ => rfl) (by simp)
    hg (ok_one (by kernel_rfl) rfl (okWide_bool_mk Try.underlying4 _))⟩

set_option maxRecDepth 100000 in
theorem over : Rows.viewRowsRow.holds Try.pinned (OpenSpec.ofChange Rows.viewRowsSpec) :=
  OpenClaim.holds_of_wide 4 Try.f4 rfl rfl rfl rfl rfl rfl rfl ⟨rfl, rfl, rfl, rfl, rfl⟩ rfl rfl rfl rfl rfl (by kernel_rfl) Try.func4 (by kernel_rfl)
    (of_decide_eq_true (by kernel_rfl)) (by unfold Func.isWrapper; first | (rw [if_pos (by decide +kernel)]; kernel_rfl) | (rw [if_neg (by decide +kernel)]; exact ⟨rfl, rfl⟩))
    (fun os started H enc _ => lifted os started H enc)

theorem proved : Rows.ViewRowsSaid :=
  over
#print axioms proved
end Go.Proofs.Ytanhhkdoejnpiaa.LViewRows
