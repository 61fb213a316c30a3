/- ViewNodes, of all memories and rows that a machine can hold: it tells true, and changes nothing that it was handed. -/
import Derived.Test.YtanhhkdoejnpiaaGreatOa
namespace Go.Proofs.YtanhhkdoejnpiaaGreat.LViewNodes
open G
open Go.Joins Go.ChangeShapes Go.WideShapes Go.ChangeAt Go.RowKit Go.Deep Go.Shelf Go.Maps
set_option linter.unusedVariables false
set_option linter.unusedSimpArgs false

set_option maxRecDepth 100000 in
theorem opened {H : Type} {enc : TypeId × Value → H} {w : World} {r : Reach} {b0 : Nat} {v : Value} {d : DataW H} {p : List MemPlace} (hv : Value.okWide Tryz.prog w r b0 25 v) (h : DataW.Trod enc Tryz.prog w 0 (fun _ => true) true 25 v d p) :
    ∃ (N : Int) (A0 A1 : Option Addr) (n0 n1 c0 c1 : Nat) (xs ys : List Int), v = .agg #[.int .i64 N, .slice A0 n0 c0, .slice A1 n1 c1] ∧ I64 N ∧ SlOk w A0 n0 c0 xs ∧ SlOk w A1 n1 c1 ys := by
  obtain ⟨⟨l⟩, rfl, hsz⟩ := okWide_struct Tryz.underlying25 hv
  match l, hsz.trans cells_mem with
  | [z0, z1, z2], _ =>
    obtain ⟨fuel, hf⟩ := h
    obtain ⟨N, A0, A1, n0, n1, c0, c1, xs, ys, rfl, rfl, rfl, h1, h2, h3⟩ := mem_open (v0 := z0) (v1 := z1) (v2 := z2) hf
    exact ⟨N, A0, A1, n0, n1, c0, c1, xs, ys, rfl, h1, h2, h3⟩

theorem rall_let (v : Value) (L : List (List Int)) (w : World) (hL : K.Rw w v L) (hN : L.flatten.length ≤ 1048576) :
    Calls Tryz.prog 26 #[v] w fun e w' => ∃ A c, e = .returned (.slice A (K.unq L.flatten).length c) ∧ Sl .u64 w' (.slice A (K.unq L.flatten).length c) (K.unq L.flatten) ∧ Up w w' :=
  (K.rall_any v L w hL (by omega)).mono fun e w' h => by
    obtain ⟨u, rfl, hlo, k⟩ := h
    have hs := sl_lo hlo
    obtain ⟨A, c, rfl⟩ := hs.slice
    exact ⟨A, c, rfl, hs, k⟩
theorem few_is {N : Int} {n0 n1 : Nat} {L : List (List Int)} (h : fewb N n0 n1 L = true) : ∃ n : Nat, N = n ∧ n0 = n ∧ n1 = n ∧ 16 ≤ n ∧ n ≤ 200 ∧ L.length ≤ 10 := by
  unfold fewb rt at h
  simp only [Bool.and_eq_true, decide_eq_true_eq] at h
  exact ⟨n0, by omega, rfl, by omega, by omega, by omega, h.2.2.1⟩
set_option maxRecDepth 100000 in
set_option maxHeartbeats 16000000 in
theorem walk_no (N : Int) (A0 A1 : Option Addr) (n0 n1 c0 c1 : Nat) (v : Value) (L : List (List Int)) (w : World) (hL : K.Rw w v L) (hN : L.flatten.length ≤ 1048576) (hf : fewb N n0 n1 L = false) :
    Calls Tryz.prog 6 #[.agg #[.int .i64 N, .slice A0 n0 c0, .slice A1 n1 c1], v] w fun e w' => e = .returned (.bool true) ∧ Up w w' := by
  have HF := Lib.hid (fun V (k : Up w V) => by
    have h := few_any N A0 A1 n0 n1 c0 c1 v L V (hL.up k) hN
    rw [hf] at h
    exact h)
  have HSH := Lib.hid shown_any
  obtain ⟨A, c, rfl, -⟩ := hL
  clear hN hf
  generalize L.length = n at *
  go_enter Tryz.func6, Tryz.ntmps6
  go_wp2_with (fail)
  refine calls_at (fun V1 hV => ?_)
  have kv : Up w V1 := by rw [hV]; (repeat (first | with_reducible exact Up.refl _ | with_reducible refine Up.alloc ?_ _ | with_reducible refine Up.drew ?_ | refine Up.setCell ?_ (by simp <;> omega) _))
  have bMv : Blk V1 (w.heap.size) 25 #[.int .i64 N, .slice A0 n0 c0, .slice A1 n1 c1] := by rw [hV]; (repeat (first | with_reducible exact Blk.new' _ (by simp) _ _ | with_reducible refine Blk.alloc ?_ _ | with_reducible refine Blk.drew ?_ | refine Blk.far ?_ (by simp <;> omega) _))
  have Uv : Up w V1 := kv
  clear hV kv 
  refine (HSH.out V1).mono ?_
  rintro e w1 ⟨rfl, k1⟩
  have bM1 := bMv.up k1
  have U1 := Uv.trans k1
  clear k1 Uv bMv 
  have bM1c := bM1.cell
  have bM1f := bM1.frozen
  have bM1l := bM1.lt
  go_wp2_with (fail)
  refine calls_at (fun V2 hV => ?_)
  have kv : Up w1 V2 := by rw [hV]; (repeat (first | with_reducible exact Up.refl _ | with_reducible refine Up.alloc ?_ _ | with_reducible refine Up.drew ?_ | refine Up.setCell ?_ (by simp <;> omega) _))
  have bMv := bM1.up kv
  have Uv : Up w V2 := U1.trans kv
  clear hV kv bM1 bM1c bM1f bM1l U1
  refine (HF.out V2 Uv).mono ?_
  rintro e w2 ⟨rfl, k2⟩
  have bM2 := bMv.up k2
  have U2 := Uv.trans k2
  clear k2 Uv bMv 
  have bM2c := bM2.cell
  have bM2f := bM2.frozen
  have bM2l := bM2.lt
  go_wp2
  go_ret
  refine ⟨rfl, ?_⟩
  (repeat (first | with_reducible exact U2 | with_reducible refine Up.alloc ?_ _ | with_reducible refine Up.drew ?_ | refine Up.setCell ?_ (by simp <;> omega) _))
set_option maxRecDepth 100000 in
set_option maxHeartbeats 16000000 in
theorem walk_yes (m : Me) (P Q : Addr) (c0 c1 : Nat) (v : Value) (L : List (List Int)) (w : World) (hm : Sits w m P Q c0 c1) (hwf : m.wf) (hL : K.Rw w v L) (hO : RwOk L) (hs : L.flatten.length + L.length ≤ 1048576) (hf : fewb m.n m.n m.n L = true) :
    Calls Tryz.prog 6 #[mev m.n P Q c0 c1, v] w fun e w' => e = .returned (.bool true) ∧ Up w w' := by
  have hn : m.n ≤ 4096 := hm.1.2.1
  have hn2 : m.n ≤ 200 := by
    obtain ⟨n, e, -, -, -, h, -⟩ := few_is hf
    omega
  have HSH := Lib.hid shown_any
  have HF := Lib.hid (fun V (k : Up w V) => by
    have h := few_any m.n (some P) (some Q) m.n m.n c0 c1 v L V (hL.up k) hO.l
    rw [hf] at h
    exact h)
  have HALL := Lib.hid (fun V (k : Up w V) => rall_let v L V (hL.up k) hO.l)
  have huq : ∀ x ∈ K.unq L.flatten, U64 x := fun x hx => hO.u x (unq_mem hx)
  have HRE := Lib.hid (fun V A n cu (k : Up w V) (h : Sl .u64 V (.slice A n cu) (K.unq L.flatten)) => by
    have h := rreach_let m P Q c0 c1 A n cu (K.unq L.flatten) V (hm.up k) hwf h huq
    exact h.mono (R' := fun e w' => ∃ A c, e = .returned (.slice A (m.rch L.flatten).length c) ∧ Up V w') fun e w' hp => by
      unfold RchP at hp
      rw [rch_unq] at hp
      obtain ⟨A, c, h1, -, h2⟩ := hp
      exact ⟨A, c, h1, h2⟩)
  have HOF := Lib.hid (fun V (k : Up w V) => of_any m P Q c0 c1 v L V (hm.up k) hwf (rw_of_k (hL.up k)) hO (by omega))
  have hSg := of_sm (L := L) hwf (by omega) hs
  have HRT := Lib.hid (fun W u (hu : GrV W u (ofG m L)) => by
    have h := rright15_any u (ofG m L) W hu (fun n hn => hSg.rg.mp n hn)
    rw [rgB_of hSg.rg] at h
    exact h)
  have hL2 := (of_len m L).2
  have hrl := rch_len m hn L.flatten
  obtain ⟨A, c, rfl, -⟩ := hL
  cases hb : ofB m L with
  | false =>
    rw [hb] at HOF
    have HOG : Hid (∀ V, Up w V → Calls Tryz.prog 11 #[mev m.n P Q c0 c1, .slice A L.length c] V fun e w' => e = .returned (.tuple #[gr0, .int .i64 10]) ∧ Up V w') := Lib.hid (fun V k => (HOF.out V k).mono fun e w' h => by
      rw [if_neg (by decide)] at h
      exact h)
    clear HOF hm hwf hO hf huq HALL HRE HRT hSg hL2 hrl hb hs hn hn2
    generalize L.length = ln at *
    go_enter Tryz.func6, Tryz.ntmps6
    go_wp2_with (fail)
    refine calls_at (fun V1 hV => ?_)
    have kv : Up w V1 := by rw [hV]; (repeat (first | with_reducible exact Up.refl _ | with_reducible refine Up.alloc ?_ _ | with_reducible refine Up.drew ?_ | refine Up.setCell ?_ (by simp <;> omega) _))
    have bMv : Blk V1 (w.heap.size) 25 #[.int .i64 m.n, .slice (some P) m.n c0, .slice (some Q) m.n c1] := by rw [hV]; (repeat (first | with_reducible exact Blk.new' _ (by simp) _ _ | with_reducible refine Blk.alloc ?_ _ | with_reducible refine Blk.drew ?_ | refine Blk.far ?_ (by simp <;> omega) _))
    have Uv : Up w V1 := kv
    clear hV kv 
    refine (HSH.out V1).mono ?_
    rintro e w1 ⟨rfl, k1⟩
    have bM1 := bMv.up k1
    have U1 := Uv.trans k1
    clear k1 Uv bMv 
    have bM1c := bM1.cell
    have bM1f := bM1.frozen
    have bM1l := bM1.lt
    go_wp2_with (fail)
    refine calls_at (fun V2 hV => ?_)
    have kv : Up w1 V2 := by rw [hV]; (repeat (first | with_reducible exact Up.refl _ | with_reducible refine Up.alloc ?_ _ | with_reducible refine Up.drew ?_ | refine Up.setCell ?_ (by simp <;> omega) _))
    have bMv := bM1.up kv
    have Uv : Up w V2 := U1.trans kv
    clear hV kv bM1 bM1c bM1f bM1l U1
    refine (HF.out V2 Uv).mono ?_
    rintro e w2 ⟨rfl, k2⟩
    have bM2 := bMv.up k2
    have U2 := Uv.trans k2
    clear k2 Uv bMv 
    have bM2c := bM2.cell
    have bM2f := bM2.frozen
    have bM2l := bM2.lt
    go_wp2_with (fail)
    refine calls_at (fun V3 hV => ?_)
    have kv : Up w2 V3 := by rw [hV]; (repeat (first | with_reducible exact Up.refl _ | with_reducible refine Up.alloc ?_ _ | with_reducible refine Up.drew ?_ | refine Up.setCell ?_ (by simp <;> omega) _))
    have bMv := bM2.up kv
    have Uv : Up w V3 := U2.trans kv
    clear hV kv bM2 bM2c bM2f bM2l U2
    refine (HOG.out V3 Uv).mono ?_
    rintro e w3 ⟨rfl, k3⟩
    have bM3 := bMv.up k3
    have U3 := Uv.trans k3
    clear k3 Uv bMv 
    have bM3c := bM3.cell
    have bM3f := bM3.frozen
    have bM3l := bM3.lt
    go_wp2
    go_ret
    refine ⟨rfl, ?_⟩
    (repeat (first | with_reducible exact U3 | with_reducible refine Up.alloc ?_ _ | with_reducible refine Up.drew ?_ | refine Up.setCell ?_ (by simp <;> omega) _))
  | true =>
    rw [hb] at HOF
    have HOG : Hid (∀ V, Up w V → Calls Tryz.prog 11 #[mev m.n P Q c0 c1, .slice A L.length c] V (OfY (ofG m L) (m.rch L.flatten).length L.length V)) := Lib.hid (fun V k => (HOF.out V k).mono fun e w' h => by
      rw [if_pos rfl] at h
      exact h)
    clear HOF
    obtain ⟨W4, hW4⟩ : ∃ W : Nat, 400 = W := ⟨_, rfl⟩
    by_cases hp : pte (ofG m L) 400 0 = 0
    · have HPT : Hid (∀ V u, GrV V u (ofG m L) → Calls Tryz.prog 13 #[u, .int .i64 400, .int .i64 0] V (PtY (ofG m L) W4 L.length 0 V)) := Lib.hid (by subst hW4; exact fun V u hu => put_yes (W := 400) hSg hp hL2 V u hu)
      have hp4 : pte (ofG m L) W4 0 = 0 := by subst hW4; exact hp
      have HAA := Lib.hid (fun P Q c d v u V hm hwf hr hu => by
        have h := put_alike hSg hp4 hSg P Q c d v u V hm hwf hr hu
        rw [decide_eq_true rfl] at h
        exact h)
      clear hm hwf hO hf huq hSg hL2 hb hs hn hn2 hp hp4 hW4
      generalize (m.rch L.flatten).length = rn at *
      generalize (K.unq L.flatten).length = qn at *
      generalize L.length = ln at *
      generalize ofG m L = g at *
      go_enter Tryz.func6, Tryz.ntmps6
      go_wp2_with (fail)
      refine calls_at (fun V1 hV => ?_)
      have kv : Up w V1 := by rw [hV]; (repeat (first | with_reducible exact Up.refl _ | with_reducible refine Up.alloc ?_ _ | with_reducible refine Up.drew ?_ | refine Up.setCell ?_ (by simp <;> omega) _))
      have bMv : Blk V1 (w.heap.size) 25 #[.int .i64 m.n, .slice (some P) m.n c0, .slice (some Q) m.n c1] := by rw [hV]; (repeat (first | with_reducible exact Blk.new' _ (by simp) _ _ | with_reducible refine Blk.alloc ?_ _ | with_reducible refine Blk.drew ?_ | refine Blk.far ?_ (by simp <;> omega) _))
      have Uv : Up w V1 := kv
      clear hV kv 
      refine (HSH.out V1).mono ?_
      rintro e w1 ⟨rfl, k1⟩
      have bM1 := bMv.up k1
      have U1 := Uv.trans k1
      clear k1 Uv bMv 
      have bM1c := bM1.cell
      have bM1f := bM1.frozen
      have bM1l := bM1.lt
      go_wp2_with (fail)
      refine calls_at (fun V2 hV => ?_)
      have kv : Up w1 V2 := by rw [hV]; (repeat (first | with_reducible exact Up.refl _ | with_reducible refine Up.alloc ?_ _ | with_reducible refine Up.drew ?_ | refine Up.setCell ?_ (by simp <;> omega) _))
      have bMv := bM1.up kv
      have Uv : Up w V2 := U1.trans kv
      clear hV kv bM1 bM1c bM1f bM1l U1
      refine (HF.out V2 Uv).mono ?_
      rintro e w2 ⟨rfl, k2⟩
      have bM2 := bMv.up k2
      have U2 := Uv.trans k2
      clear k2 Uv bMv 
      have bM2c := bM2.cell
      have bM2f := bM2.frozen
      have bM2l := bM2.lt
      go_wp2_with (fail)
      refine calls_at (fun V3 hV => ?_)
      have kv : Up w2 V3 := by rw [hV]; (repeat (first | with_reducible exact Up.refl _ | with_reducible refine Up.alloc ?_ _ | with_reducible refine Up.drew ?_ | refine Up.setCell ?_ (by simp <;> omega) _))
      have bMv := bM2.up kv
      have Uv : Up w V3 := U2.trans kv
      clear hV kv bM2 bM2c bM2f bM2l U2
      refine (HOG.out V3 Uv).mono ?_
      rintro e w3 ⟨AK, cK, BK, dK, rfl, sK3, k3⟩
      have bM3 := bMv.up k3
      have U3 := Uv.trans k3
      clear k3 Uv bMv 
      have bM3c := bM3.cell
      have bM3f := bM3.frozen
      have bM3l := bM3.lt
      go_wp2_with (fail)
      obtain ⟨W0, hW0⟩ : ∃ W0 : World, W0 = (w3.alloc (.cells #[.slice AK rn cK, .slice BK ln dK] 30)).drew := ⟨_, rfl⟩
      have U0 : Up W0 (w3.alloc (.cells #[.slice AK rn cK, .slice BK ln dK] 30)).drew := by rw [hW0]; exact Up.refl _
      have k0 : Up w3 W0 := by rw [hW0]; exact ((Up.refl _).alloc _).drew
      have bM0 := bM3.up k0
      have bK0 : Blk W0 (w3.heap.size) 30 #[.slice AK rn cK, .slice BK ln dK] := by rw [hW0]; exact Blk.drew (Blk.new' _ (by simp) _ _)
      have sK0 := sK3.up k0
      have UW0 := U3.trans k0
      clear hW0 k0 bM3 bM3c bM3f bM3l U3 sK3
      go_region_held3 (fun w' => (∀ zi, w'.cell? ⟨w.heap.size, zi, none⟩ = (#[.int .i64 m.n, .slice (some P) m.n c0, .slice (some Q) m.n c1] : Array Value)[zi]?))
        (exact fun zi => (Blk.up bM0 (by assumption)).cell zi)
        (first
          | (go_at_call 26; ((with_reducible refine (HALL.out _ (UW0.trans (by assumption))).mono ?_); rintro e wz ⟨Aa, ca, rfl, sa, hz⟩; have UZ := Up.trans (a := W0) (by assumption) hz))
          | (go_at_call 25; ((with_reducible refine (HRE.out _ _ _ _ (UW0.trans (by assumption)) (by assumption)).mono ?_); rintro e wz ⟨Ar, cr, rfl, hz⟩; have UZ := Up.trans (a := W0) (by assumption) hz))
          | (go_at_call 25; ((with_reducible refine (HRE.out _ _ _ _ (UW0.trans (by assumption)) (sa.up (by assumption))).mono ?_); rintro e wz ⟨Ar, cr, rfl, hz⟩; have UZ := Up.trans (a := W0) (by assumption) hz)))
      all_goals
        obtain ⟨w4, hww⟩ : ∃ z : World, z = wz := ⟨_, rfl⟩
        subst hww
        have bM4 := bM0.up UZ
        have bK4 := bK0.up UZ
        have sK4 := sK0.up UZ
        have U4 := UW0.trans UZ
        clear bM0 bK0 sK0
        have bM4c := bM4.cell
        have bM4f := bM4.frozen
        have bM4l := bM4.lt
        have bK4c := bK4.cell
        have bK4f := bK4.frozen
        have bK4l := bK4.lt
        go_wp2_with (fail)
        refine calls_at (fun V5 hV => ?_)
        have kv : Up w4 V5 := by rw [hV]; (repeat (first | with_reducible exact Up.refl _ | with_reducible refine Up.alloc ?_ _ | with_reducible refine Up.drew ?_ | refine Up.setCell ?_ (by simp <;> omega) _))
        have bMv := bM4.up kv
        have bKv := bK4.up kv
        have Uv : Up w V5 := U4.trans kv
        have sKv := sK4.up kv
        clear hV kv bM4 bM4c bM4f bM4l bK4 bK4c bK4f bK4l U4 sK4
        refine (HPT.out V5 _ sKv).mono ?_
        rintro e w5 ⟨PX, QX, cX, dX, BR, kR, rfl, sX5, HWFX, sR5, k5⟩
        have bM5 := bMv.up k5
        have bK5 := bKv.up k5
        have U5 := Uv.trans k5
        have sK5 := sKv.up k5
        clear k5 Uv bMv bKv sKv
        have bM5c := bM5.cell
        have bM5f := bM5.frozen
        have bM5l := bM5.lt
        have bK5c := bK5.cell
        have bK5f := bK5.frozen
        have bK5l := bK5.lt
        go_wp2_with (fail)
        refine calls_at (fun V6 hV => ?_)
        have kv : Up w5 V6 := by rw [hV]; (repeat (first | with_reducible exact Up.refl _ | with_reducible refine Up.alloc ?_ _ | with_reducible refine Up.drew ?_ | refine Up.setCell ?_ (by simp <;> omega) _))
        have bMv := bM5.up kv
        have bKv := bK5.up kv
        have bXv : Blk V6 (w5.heap.size) 25 #[.int .i64 W4, .slice (some PX) W4 cX, .slice (some QX) W4 dX] := by rw [hV]; (repeat (first | with_reducible exact Blk.new' _ (by simp) _ _ | with_reducible refine Blk.alloc ?_ _ | with_reducible refine Blk.drew ?_ | refine Blk.far ?_ (by simp <;> omega) _))
        have Uv : Up w V6 := U5.trans kv
        have sKv := sK5.up kv
        have sXv := sX5.up kv
        have sRv := sR5.up kv
        clear hV kv bM5 bM5c bM5f bM5l bK5 bK5c bK5f bK5l U5 sK5 sX5 sR5
        refine (HRT.out V6 _ sKv).mono ?_
        rintro e w6 ⟨rfl, k6⟩
        have bM6 := bMv.up k6
        have bK6 := bKv.up k6
        have bX6 := bXv.up k6
        have U6 := Uv.trans k6
        have sK6 := sKv.up k6
        have sX6 := sXv.up k6
        have sR6 := sRv.up k6
        clear k6 Uv bMv bKv bXv sKv sXv sRv
        have bM6c := bM6.cell
        have bM6f := bM6.frozen
        have bM6l := bM6.lt
        have bK6c := bK6.cell
        have bK6f := bK6.frozen
        have bK6l := bK6.lt
        have bX6c := bX6.cell
        have bX6f := bX6.frozen
        have bX6l := bX6.lt
        go_wp2_with (fail)
        refine calls_at (fun V7 hV => ?_)
        have kv : Up w6 V7 := by rw [hV]; (repeat (first | with_reducible exact Up.refl _ | with_reducible refine Up.alloc ?_ _ | with_reducible refine Up.drew ?_ | refine Up.setCell ?_ (by simp <;> omega) _))
        have bMv := bM6.up kv
        have bKv := bK6.up kv
        have bXv := bX6.up kv
        have Uv : Up w V7 := U6.trans kv
        have sKv := sK6.up kv
        have sXv := sX6.up kv
        have sRv := sR6.up kv
        clear hV kv bM6 bM6c bM6f bM6l bK6 bK6c bK6f bK6l bX6 bX6c bX6f bX6l U6 sK6 sX6 sR6
        refine (HAA.out PX QX cX dX _ _ V7 sXv HWFX sRv sKv).mono ?_
        rintro e w7 ⟨rfl, k7⟩
        have bM7 := bMv.up k7
        have bK7 := bKv.up k7
        have bX7 := bXv.up k7
        have U7 := Uv.trans k7
        have sK7 := sKv.up k7
        have sX7 := sXv.up k7
        have sR7 := sRv.up k7
        clear k7 Uv bMv bKv bXv sKv sXv sRv
        have bM7c := bM7.cell
        have bM7f := bM7.frozen
        have bM7l := bM7.lt
        have bK7c := bK7.cell
        have bK7f := bK7.frozen
        have bK7l := bK7.lt
        have bX7c := bX7.cell
        have bX7f := bX7.frozen
        have bX7l := bX7.lt
        go_wp2
        go_ret
        refine ⟨rfl, ?_⟩
        (repeat (first | with_reducible exact U7 | with_reducible refine Up.alloc ?_ _ | with_reducible refine Up.drew ?_ | refine Up.setCell ?_ (by simp <;> omega) _))
    · obtain ⟨x, hx⟩ : ∃ x, pte (ofG m L) 400 0 = x := ⟨_, rfl⟩
      rw [hx] at hp
      have HPT := Lib.hid (fun V u hu => put_no hSg (by unfold I64; omega) hx hp V u hu)
      have hb0 : (x != 0) = true := bne_iff_ne.2 hp
      clear hm hwf hO hf huq hSg hL2 hb hs hn hn2 hp hx hW4
      generalize (m.rch L.flatten).length = rn at *
      generalize (K.unq L.flatten).length = qn at *
      generalize L.length = ln at *
      generalize ofG m L = g at *
      go_enter Tryz.func6, Tryz.ntmps6
      go_wp2_with (fail)
      refine calls_at (fun V1 hV => ?_)
      have kv : Up w V1 := by rw [hV]; (repeat (first | with_reducible exact Up.refl _ | with_reducible refine Up.alloc ?_ _ | with_reducible refine Up.drew ?_ | refine Up.setCell ?_ (by simp <;> omega) _))
      have bMv : Blk V1 (w.heap.size) 25 #[.int .i64 m.n, .slice (some P) m.n c0, .slice (some Q) m.n c1] := by rw [hV]; (repeat (first | with_reducible exact Blk.new' _ (by simp) _ _ | with_reducible refine Blk.alloc ?_ _ | with_reducible refine Blk.drew ?_ | refine Blk.far ?_ (by simp <;> omega) _))
      have Uv : Up w V1 := kv
      clear hV kv 
      refine (HSH.out V1).mono ?_
      rintro e w1 ⟨rfl, k1⟩
      have bM1 := bMv.up k1
      have U1 := Uv.trans k1
      clear k1 Uv bMv 
      have bM1c := bM1.cell
      have bM1f := bM1.frozen
      have bM1l := bM1.lt
      go_wp2_with (fail)
      refine calls_at (fun V2 hV => ?_)
      have kv : Up w1 V2 := by rw [hV]; (repeat (first | with_reducible exact Up.refl _ | with_reducible refine Up.alloc ?_ _ | with_reducible refine Up.drew ?_ | refine Up.setCell ?_ (by simp <;> omega) _))
      have bMv := bM1.up kv
      have Uv : Up w V2 := U1.trans kv
      clear hV kv bM1 bM1c bM1f bM1l U1
      refine (HF.out V2 Uv).mono ?_
      rintro e w2 ⟨rfl, k2⟩
      have bM2 := bMv.up k2
      have U2 := Uv.trans k2
      clear k2 Uv bMv 
      have bM2c := bM2.cell
      have bM2f := bM2.frozen
      have bM2l := bM2.lt
      go_wp2_with (fail)
      refine calls_at (fun V3 hV => ?_)
      have kv : Up w2 V3 := by rw [hV]; (repeat (first | with_reducible exact Up.refl _ | with_reducible refine Up.alloc ?_ _ | with_reducible refine Up.drew ?_ | refine Up.setCell ?_ (by simp <;> omega) _))
      have bMv := bM2.up kv
      have Uv : Up w V3 := U2.trans kv
      clear hV kv bM2 bM2c bM2f bM2l U2
      refine (HOG.out V3 Uv).mono ?_
      rintro e w3 ⟨AK, cK, BK, dK, rfl, sK3, k3⟩
      have bM3 := bMv.up k3
      have U3 := Uv.trans k3
      clear k3 Uv bMv 
      have bM3c := bM3.cell
      have bM3f := bM3.frozen
      have bM3l := bM3.lt
      go_wp2_with (fail)
      obtain ⟨W0, hW0⟩ : ∃ W0 : World, W0 = (w3.alloc (.cells #[.slice AK rn cK, .slice BK ln dK] 30)).drew := ⟨_, rfl⟩
      have U0 : Up W0 (w3.alloc (.cells #[.slice AK rn cK, .slice BK ln dK] 30)).drew := by rw [hW0]; exact Up.refl _
      have k0 : Up w3 W0 := by rw [hW0]; exact ((Up.refl _).alloc _).drew
      have bM0 := bM3.up k0
      have bK0 : Blk W0 (w3.heap.size) 30 #[.slice AK rn cK, .slice BK ln dK] := by rw [hW0]; exact Blk.drew (Blk.new' _ (by simp) _ _)
      have sK0 := sK3.up k0
      have UW0 := U3.trans k0
      clear hW0 k0 bM3 bM3c bM3f bM3l U3 sK3
      go_region_held3 (fun w' => (∀ zi, w'.cell? ⟨w.heap.size, zi, none⟩ = (#[.int .i64 m.n, .slice (some P) m.n c0, .slice (some Q) m.n c1] : Array Value)[zi]?))
        (exact fun zi => (Blk.up bM0 (by assumption)).cell zi)
        (first
          | (go_at_call 26; ((with_reducible refine (HALL.out _ (UW0.trans (by assumption))).mono ?_); rintro e wz ⟨Aa, ca, rfl, sa, hz⟩; have UZ := Up.trans (a := W0) (by assumption) hz))
          | (go_at_call 25; ((with_reducible refine (HRE.out _ _ _ _ (UW0.trans (by assumption)) (by assumption)).mono ?_); rintro e wz ⟨Ar, cr, rfl, hz⟩; have UZ := Up.trans (a := W0) (by assumption) hz))
          | (go_at_call 25; ((with_reducible refine (HRE.out _ _ _ _ (UW0.trans (by assumption)) (sa.up (by assumption))).mono ?_); rintro e wz ⟨Ar, cr, rfl, hz⟩; have UZ := Up.trans (a := W0) (by assumption) hz)))
      all_goals
        obtain ⟨w4, hww⟩ : ∃ z : World, z = wz := ⟨_, rfl⟩
        subst hww
        have bM4 := bM0.up UZ
        have bK4 := bK0.up UZ
        have sK4 := sK0.up UZ
        have U4 := UW0.trans UZ
        clear bM0 bK0 sK0
        have bM4c := bM4.cell
        have bM4f := bM4.frozen
        have bM4l := bM4.lt
        have bK4c := bK4.cell
        have bK4f := bK4.frozen
        have bK4l := bK4.lt
        go_wp2_with (fail)
        refine calls_at (fun V5 hV => ?_)
        have kv : Up w4 V5 := by rw [hV]; (repeat (first | with_reducible exact Up.refl _ | with_reducible refine Up.alloc ?_ _ | with_reducible refine Up.drew ?_ | refine Up.setCell ?_ (by simp <;> omega) _))
        have bMv := bM4.up kv
        have bKv := bK4.up kv
        have Uv : Up w V5 := U4.trans kv
        have sKv := sK4.up kv
        clear hV kv bM4 bM4c bM4f bM4l bK4 bK4c bK4f bK4l U4 sK4
        refine (HPT.out V5 _ sKv).mono ?_
        rintro e w5 ⟨rfl, k5⟩
        have bM5 := bMv.up k5
        have bK5 := bKv.up k5
        have U5 := Uv.trans k5
        have sK5 := sKv.up k5
        clear k5 Uv bMv bKv sKv
        have bM5c := bM5.cell
        have bM5f := bM5.frozen
        have bM5l := bM5.lt
        have bK5c := bK5.cell
        have bK5f := bK5.frozen
        have bK5l := bK5.lt
        go_wp2_with (fail)
        refine calls_at (fun V6 hV => ?_)
        have kv : Up w5 V6 := by rw [hV]; (repeat (first | with_reducible exact Up.refl _ | with_reducible refine Up.alloc ?_ _ | with_reducible refine Up.drew ?_ | refine Up.setCell ?_ (by simp <;> omega) _))
        have bMv := bM5.up kv
        have bKv := bK5.up kv
        have bXv : Blk V6 (w5.heap.size) 25 #[.int .i64 0, .slice none 0 0, .slice none 0 0] := by rw [hV]; (repeat (first | with_reducible exact Blk.new' _ (by simp) _ _ | with_reducible refine Blk.alloc ?_ _ | with_reducible refine Blk.drew ?_ | refine Blk.far ?_ (by simp <;> omega) _))
        have Uv : Up w V6 := U5.trans kv
        have sKv := sK5.up kv
        clear hV kv bM5 bM5c bM5f bM5l bK5 bK5c bK5f bK5l U5 sK5
        refine (HRT.out V6 _ sKv).mono ?_
        rintro e w6 ⟨rfl, k6⟩
        have bM6 := bMv.up k6
        have bK6 := bKv.up k6
        have bX6 := bXv.up k6
        have U6 := Uv.trans k6
        have sK6 := sKv.up k6
        clear k6 Uv bMv bKv bXv sKv
        have bM6c := bM6.cell
        have bM6f := bM6.frozen
        have bM6l := bM6.lt
        have bK6c := bK6.cell
        have bK6f := bK6.frozen
        have bK6l := bK6.lt
        have bX6c := bX6.cell
        have bX6f := bX6.frozen
        have bX6l := bX6.lt
        go_wp2
        go_ret
        refine ⟨rfl, ?_⟩
        (repeat (first | with_reducible exact U6 | with_reducible refine Up.alloc ?_ _ | with_reducible refine Up.drew ?_ | refine Up.setCell ?_ (by simp <;> omega) _))
theorem walk (N : Int) (A0 A1 : Option Addr) (n0 n1 c0 c1 : Nat) (xs ys : List Int) (v : Value) (L : List (List Int)) (w : World) (hx : SlOk w A0 n0 c0 xs) (hy : SlOk w A1 n1 c1 ys) (hL : K.Rw w v L) (hu : ∀ r ∈ L, ∀ y ∈ r, U64 y) (hb : L.flatten.length + L.length ≤ 1048576) :
    Calls Tryz.prog 6 #[.agg #[.int .i64 N, .slice A0 n0 c0, .slice A1 n1 c1], v] w fun e w' => e = .returned (.bool true) ∧ Up w w' := by
  cases hf : fewb N n0 n1 L with
  | false => exact walk_no N A0 A1 n0 n1 c0 c1 v L w hL (by omega) hf
  | true =>
    obtain ⟨n, rfl, rfl, rfl, h16, h200, -⟩ := few_is hf
    obtain ⟨P, Q, rfl, rfl, hs⟩ := sits_of hx hy h16 (by omega)
    exact walk_yes ⟨n1, xs, ys⟩ P Q c0 c1 v L w hs (sits_wf hx hy) hL ⟨fun y hy => by
      obtain ⟨r, hr, hy⟩ := List.mem_flatten.1 hy
      exact hu r hr y hy, by omega⟩ hb hf
theorem own : ownKnob Tryz.prog.godebug = none := by kernel_rfl
set_option maxRecDepth 100000 in
theorem contract (H : Type) (enc : TypeId × Value → H) (W : World) (base : Nat) (args : Array Value) (ds gs : List (DataW H)) (before : List MemPlace)
    (hval0 : ∀ (j : Nat) t v, Tryz.f6.params[j]? = some t → args[j]? = some v → Value.okWide Tryz.prog W .any base t v)
    (hW : DataW.Whole enc Tryz.prog Tryz.f6.params.toList Rows.viewNodesSpec.vars false W args.toList ds gs before) (hk : Rows.uptoSmall H (ds ++ gs) = true) :
    Calls Tryz.prog 6 args W fun e W' => ∃ v, e = .returned v ∧ Rows.viewNodesSpec.post enc Tryz.prog Tryz.f6 false true false false W args v W' := by
  have hval : ∀ (j : Nat) t v, Tryz.f6.params[j]? = some t → args[j]? = some v → Value.okWide Tryz.prog W .any base t v := hval0
  have hW' := hW
  obtain ⟨p, q, hA0, hV, rfl, hfz, hnd⟩ := hW
  have hA : DataW.TrodAll enc Tryz.prog W 0 (fun _ => true) true Tryz.f6.params.toList args.toList ds p := hA0
  rw [Tryz.params6] at hA hval
  obtain ⟨v0, vs0, d0, ds0, p0, q0, hargs, rfl, rfl, h0, r0⟩ := trodAll_cons hA
  obtain ⟨v1, vs1, d1, ds1, p1, q1, rfl, rfl, rfl, h1, r1⟩ := trodAll_cons r0
  obtain ⟨rfl, rfl, rfl⟩ := trodAll_nil r1
  obtain rfl : args = #[v0, v1] := by cases args; simp_all
  obtain ⟨rfl, rfl⟩ := trodVars_none hV
  have hbk : Rows.uptoBulkAll [d0, d1] ≤ 1048576 := of_decide_eq_true hk
  simp only [Rows.uptoBulkAll] at hbk
  clear hk
  have h0k := h0
  obtain ⟨N, A0, A1, n0, n1, c0, c1, xs, ys, rfl, hN, hx, hy⟩ := opened (hval 0 25 v0 rfl rfl) h0
  have h1k := h1
  obtain ⟨L1, hL1, hu1, hb1, hl1⟩ := K.rows_at (hval 1 26 v1 rfl rfl) h1
  clear hA0 hval0
  simp only [List.append_nil, List.nil_append] at hW'
  refine (walk N A0 A1 n0 n1 c0 c1 xs ys v1 L1 W hx hy hL1 hu1 (by omega)).mono fun e W' ⟨he, hg⟩ => ?_
  subst he
  exact ⟨_, rfl, post_below (pa := p0 ++ p1) (pv := []) hW' (fun _ _ _ => (trodAll_cons_mk (shut_bool Tryz.underlying4 _) trodAll_mk0))
    (fun sp hsp => by
      have t := (trodAll_cons_mk (trod_keeps (sp := sp) (by kernel_rfl) (of_decide_eq_true (by kernel_rfl)) h0k hg (fun x hx => hW'.lt x (by simp [hx])) (fun x hx => hsp x (by simp [hx]))) (trodAll_cons_mk (trod_keeps (sp := sp) (by kernel_rfl) (of_decide_eq_true (by kernel_rfl)) h1k hg (fun x hx => hW'.lt x (by simp [hx])) (fun x hx => hsp x (by simp [hx]))) trodAll_mk0))
      simp only [List.append_nil, List.nil_append] at t
      exact t) (fun _ _ => rfl) (by simp)
    hg (ok_one (by kernel_rfl) rfl (okWide_bool_mk Tryz.underlying4 _))⟩

set_option maxRecDepth 100000 in
theorem lifted (os : Os) (started : os.Started) (H : Type) (enc : TypeId × Value → H) (F : Stop.Interp) :
    ReturnsInHanded {} Tryz.checked os 6 .any ((Rows.OpenSpec.upto Rows.viewNodesSpec).pre6 enc Tryz.prog Tryz.f6 Rows.viewNodesUptoRow.domain false) (((Rows.OpenSpec.upto Rows.viewNodesSpec).at F).post enc Tryz.prog Tryz.f6 false true false false) := by
  refine returnsInHanded_of_cond (C := Tryz.checked) (s := Rows.OpenSpec.upto Rows.viewNodesSpec) (k := Rows.uptoSmall) rfl own started (by kernel_rfl) Tryz.func6
    (OpenSpec.witness (enc := enc) (C := Tryz.checked) (s := Rows.OpenSpec.upto Rows.viewNodesSpec) (k := Rows.uptoSmall) rfl false ⟨#[], #[.agg #[.int .i64 0, .slice none 0 0, .slice none 0 0], .slice none 0 0], []⟩ 8 (by kernel_rfl) (by kernel_rfl) (by kernel_rfl)
      (x := ([.agg [.lit (.int .i64 0), .agg [.nil, .nil]], .nil], [], [])) (by kernel_rfl) rfl (by kernel_rfl)) ?_
  intro W base args ds gs before hval hW _ hk _
  exact contract H enc W base args ds gs before hval hW hk

set_option maxRecDepth 100000 in
theorem over : Rows.viewNodesUptoRow.holds Tryz.pinned (Rows.OpenSpec.upto Rows.viewNodesSpec) :=
  OpenClaim.holds_of_cond 6 Tryz.f6 rfl rfl rfl rfl rfl rfl rfl ⟨rfl, rfl, rfl, rfl, rfl⟩ rfl rfl rfl rfl rfl (by kernel_rfl) Tryz.func6 (by kernel_rfl)
    (of_decide_eq_true (by kernel_rfl)) (by unfold Func.isWrapper; first | (rw [if_pos (by decide +kernel)]; kernel_rfl) | (rw [if_neg (by decide +kernel)]; exact ⟨rfl, rfl⟩))
    (fun os started H enc _ F => lifted os started H enc F)

theorem proved : Rows.ViewNodesUptoSaid :=
  over
#print axioms proved
end Go.Proofs.YtanhhkdoejnpiaaGreat.LViewNodes
