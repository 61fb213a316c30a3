/- The statement StackThere is proved for every input, from contracts of the functions that it calls; no condition is added. -/
import Derived.Test.YtpbbbgcafphplaaSk10
import Derived.BigQuiet
namespace Go.Proofs.Ytpbbbgcafphplaa.LStackThere
open Go.Joins Go.ChangeShapes Go.Shelf Go.Maps Go.WideShapes Go.ChangeAt Go.RowKit Go.Deep
set_option linter.unusedVariables false
set_option linter.unusedSimpArgs false

theorem tof_old {fs ts : List Int} (hl : fs.length = ts.length) {a : Int} (h : a ∉ fs) : tof fs ts a = a := if_neg (fun q => h (List.mem_of_mem_take q))
theorem tof_at {fs ts : List Int} (hl : fs.length = ts.length) {a : Int} (h : a ∈ fs) : tof fs ts a = ts.getD (fs.idxOf a) 0 := by
  have e : fs.take (min fs.length ts.length) = fs := List.take_of_length_le (by omega)
  unfold tof
  rw [e, if_pos h]
theorem getD_of {l : List Int} {i : Nat} (h : i < l.length) : l.getD i 0 = l[i] := by simp [List.getD, List.getElem?_eq_getElem h]
theorem back {fs ts : List Int} (hl : fs.length = ts.length) (nt : ts.Nodup) {a : Int} (hd : a ∉ ts) : tof ts fs (tof fs ts a) = a := by
  by_cases h : a ∈ fs
  · have hi := List.idxOf_lt_length_iff.2 h
    have hi2 : fs.idxOf a < ts.length := by omega
    have hm : ts.getD (fs.idxOf a) 0 ∈ ts := getD_mem 0 hi2
    rw [tof_at hl h, tof_at hl.symm hm]
    have e : ts.idxOf (ts.getD (fs.idxOf a) 0) = fs.idxOf a := by
      have hj := List.idxOf_lt_length_iff.2 hm
      have h2 : ts.idxOf (ts[fs.idxOf a]) < ts.length := by rw [← getD_of hi2]; exact hj
      rw [getD_of hi2]
      exact (List.getElem_inj (h₀ := h2) (h₁ := hi2) nt).1 (List.getElem_idxOf h2)
    rw [e, getD_of hi, List.getElem_idxOf hi]
  · rw [tof_old hl h, tof_old hl.symm hd]
theorem there {fs ts : List Int} {L : List (List Int)} (hl : fs.length = ts.length) (nt : ts.Nodup) (hd : ∀ xs ∈ L, ∀ b ∈ ts, b ∉ xs) : turned ts fs (turned fs ts L) = L := by
  unfold turned
  rw [List.map_map]
  have : ∀ xs ∈ L, ((fun xs => xs.map (tof ts fs)) ∘ fun xs => xs.map (tof fs ts)) xs = id xs := fun xs hx => by
    show (xs.map (tof fs ts)).map (tof ts fs) = xs
    rw [List.map_map, List.map_congr_left (g := id) (fun a ha => (show (tof ts fs ∘ tof fs ts) a = id a from back hl nt (fun q => hd xs hx a q ha))), List.map_id]
  rw [List.map_congr_left this, List.map_id]
theorem nodup_of {l : List Int} (h : ∀ j, j < l.length → l.getD j 0 ∉ l.take j) : l.Nodup := by
  have : ∀ k, k ≤ l.length → (l.take k).Nodup := fun k => by
    induction k with
    | zero => intro _; simp
    | succ k ih =>
      intro hk
      rw [take_one 0 (by omega)]
      exact nodup_snoc (ih (by omega)) (h k (by omega))
  have h2 := this l.length (Nat.le_refl _)
  rwa [List.take_length] at h2
theorem run_cut (A : Option Addr) (n c k : Nat) (hk : k ≤ c) (hA : A = none → c = 0) (w : World) :
    (Instr.sliceAt 22 (.slice A n c) none (some (.int .i64 (k : Int))) none).run Try.prog w = .ok (.slice A k c) w ∧ (Instr.slice 22 (.slice A n c) none (some (.int .i64 (k : Int))) none).run Try.prog w = .ok (.slice A k c) w := by
  obtain ⟨i0, hi0, hz0, hz1, hz2⟩ := info_parts info_u64
  have hel : Try.prog.elem 22 = 23 := by kernel_rfl
  have hu : Try.prog.underlying 22 = some (.slice (Try.prog.elem 22)) := by rw [hel]; exact Try.underlying22
  rw [run_sliceAt_slice (h := hu), and_self, run_slice_h (ht := hu) (h0 := by omega) (h2 := by omega), hel]
  cases A
  · obtain rfl := hA rfl
    obtain rfl : k = 0 := by omega
    simp [sizeOf, typeInfo, hi0, sliced]
  · rename_i p
    have e0 : p.add 0 = p := Addr.add_zero' p
    simp [sizeOf, typeInfo, hi0, sliced, e0]
theorem quiet9 {P : Program} {f : FuncId} {args : Array Value} {W : World} {n : Nat} {v : Value} (h : Calls P f args (W.drewN n) fun e w' => e = .returned v ∧ W.drewN n = w') : Calls P f args (W.drewN n) fun e w'' => e = .returned v ∧ ∃ m, w'' = W.drewN m :=
  h.mono (fun e w' q => ⟨q.1, n, q.2.symm⟩)
/-- What was asked of the first x. -/
def Seen (fs ts : List Int) (L : List (List Int)) (x : Nat) : Prop := ∀ j, j < x → ts.getD j 0 ∉ ts.take j ∧ ∀ xs ∈ L, ts.getD j 0 ∉ xs
def ORel (w : World) (fs ts : List Int) (L : List (List Int)) (n : Nat) (i : Value) (wr : World) : Prop := ∃ x : Nat, x ≤ n ∧ i = .int .i64 x ∧ Seen fs ts L x ∧ Up w wr
def IRel (w : World) (b : Int) (tl : List Int) (L : List (List Int)) (m : Nat) (u9 u10 : Value) (wr : World) : Prop := ∃ (k : Nat) (q : Bool), k ≤ m ∧ u9 = .bool q ∧ u10 = .int .i64 k ∧ (q = false → b ∉ tl ∧ ∀ j, j < k → b ∉ L.getD j []) ∧ Up w wr
theorem rhas_any' (v : Value) (xs : List Int) (a : Int) (w : World) (hx : Sl w v xs) : Calls Try.prog 26 #[v, .int .u64 a] w fun e w' => e = .returned (.bool (decide (a ∈ xs))) ∧ w = w' := by
  have hm := hx.max
  obtain ⟨A, c, rfl, -, -, -, h⟩ := hx
  exact rhas_any A _ c xs a w h hm
theorem seen_step {b : Int} {tl : List Int} {L : List (List Int)} {q : Bool} (k : Nat) (h : q = false → b ∉ tl ∧ ∀ j, j < k → b ∉ L.getD j []) (r : Bool) (hr : r = decide (b ∈ L.getD k [])) (hh : (q || r) = false) : b ∉ tl ∧ ∀ j, j < k + 1 → b ∉ L.getD j [] := by
  rw [Bool.or_eq_false_iff] at hh
  refine ⟨(h hh.1).1, fun j hj => ?_⟩
  by_cases e : j = k
  · subst e
    have := hh.2
    rw [hr] at this
    exact of_decide_eq_false this
  · exact (h hh.1).2 j (by omega)
theorem seen_one {fs ts : List Int} {L : List (List Int)} {x n : Nat} {b : Int} {tl : List Int} (h : Seen fs ts L x) (hx : x < ts.length) (hb : b = ts.getD x 0) (htl : ts.take x = tl) (hn : L.length = n) (h2 : b ∉ tl ∧ ∀ j, j < n → b ∉ L.getD j []) : Seen fs ts L (x + 1) := fun j hj => by
  by_cases e : j = x
  · subst e
    rw [← hb, htl]
    refine ⟨h2.1, fun xs hxs => ?_⟩
    obtain ⟨i, hi, rfl⟩ := List.getElem_of_mem hxs
    have := h2.2 i (by omega)
    rwa [show L.getD i [] = L[i] from by simp [List.getD, List.getElem?_eq_getElem hi]] at this
  · exact h j (by omega)
set_option maxRecDepth 100000 in
set_option maxHeartbeats 4000000 in
theorem walk_len (A B C : Option Addr) (n nf nt c cf ct : Nat) (w : World) (h : nf ≠ nt) :
    Calls Try.prog 7 #[.slice A n c, .slice B nf cf, .slice C nt ct] w (fun e w' => e = .returned (.bool true) ∧ Up w w') := by
  have hb : ((nf : Int) != (nt : Int)) = true := bne_iff_ne.mpr (by omega)
  clear h
  go_enter Try.func7, Try.ntmps7
  have U0 : Up w w := Up.refl w
  go_wp2_with (fail)
  refine (shown_any _).mono ?_
  rintro e w1 ⟨rfl, k1⟩
  have U1 := U0.trans k1
  clear k1
  go_wp2
  go_ret
  exact ⟨rfl, U1⟩

set_option maxRecDepth 100000 in
set_option maxHeartbeats 4000000 in
theorem walk_is (v f t : Value) (L : List (List Int)) (fs ts : List Int) (w : World) (hL : Rw w v L) (hf : Sl w f fs) (ht : Sl w t ts) (hF : Fit L) (hfu : ∀ x ∈ fs, U64 x) (htu : ∀ x ∈ ts, U64 x) (hlen : fs.length = ts.length) :
    Calls Try.prog 7 #[v, f, t] w (fun e w' => e = .returned (.bool true) ∧ Up w w') := by
  have hx := Lib.hid (fun w' (k : Up w w') => turn_any v f t L fs ts w' (hL.up k) (hf.up k) (ht.up k) hF hfu)
  have hy := Lib.hid (fun w' (k : Up w w') y (q : Rw w' y (turned fs ts L)) => turn_any y t f (turned fs ts L) ts fs w' q (ht.up k) (hf.up k) (turned_fit hF htu) htu)
  have HTH := Lib.hid (fun (h : Seen fs ts L ts.length) => there (L := L) hlen (nodup_of (fun j hj => (h j hj).1)) (fun xs hx b hb => by
    obtain ⟨j, hj, rfl⟩ := List.getElem_of_mem hb
    have := (h j hj).2 xs hx
    rwa [getD_of hj] at this))
  have hq := Lib.hid (fun w' (k : Up w w') z (q : Rw w' z L) => by
    have h := rrows_any z v L L w' q (hL.up k)
    rwa [decide_eq_true rfl] at h)
  have hm := hL.max
  have hfm := hf.max
  have HL := Lib.hid hL
  have HFS := Lib.hid hf
  have HTS := Lib.hid ht
  obtain ⟨A, c, rfl, -⟩ := hL
  obtain ⟨Af, cf, rfl, hcf1, hcf2, -⟩ := hf
  obtain ⟨At, ct, rfl, hct1, hct2, -⟩ := ht
  clear hF hfu htu
  rw [hlen] at *
  generalize hn : L.length = n at *
  generalize hnt : ts.length = nt at *
  have HN := Lib.hid hn
  have HNT := Lib.hid hnt
  have HLEN := Lib.hid hlen
  unfold maxLen at *
  clear hn hnt hlen
  go_enter Try.func7, Try.ntmps7
  have U0 : Up w w := Up.refl w
  go_wp2_with (fail)
  refine (shown_any _).mono ?_
  rintro e w1 ⟨rfl, k1⟩
  have U1 := U0.trans k1
  clear k1
  have HU1 := Lib.hid U1
  clear U1 U0
  go_wp2_with (fail)
  go_loopw [8] (fun i wr => ORel w fs ts L nt i wr) (fun i _ => nt - (intOf i).toNat)
  case atStart => exact ⟨0, Nat.zero_le _, rfl, fun j hj => absurd hj (by omega), HU1.out⟩
  case round =>
    rename World => wb
    clear HU1
    obtain ⟨x, hxn, rfl, hse, hU⟩ := hrel
    have HSE := Lib.hid hse
    clear hse
    by_cases hlt : x < nt
    · obtain ⟨pf, rfl, hcf⟩ := (HFS.out.up hU).rd.at_ hlt
      obtain ⟨pt, rfl, hct⟩ := (HTS.out.up hU).rd.at_ hlt
      have HRF := Lib.hid (Rd.take (HFS.out.up hU).rd (show x ≤ nt by omega))
      have HRT := Lib.hid (Rd.take (HTS.out.up hU).rd (show x ≤ nt by omega))
      have hf1 := Lib.hid (fun a m => rhas_any (some pf) x cf (fs.take x) a (wb.drewN m) (HRF.out.up ((Up.refl wb).drewN m)) (by unfold maxLen; omega))
      have hf2 := Lib.hid (fun a m => rhas_any (some pt) x ct (ts.take x) a (wb.drewN m) (HRT.out.up ((Up.refl wb).drewN m)) (by unfold maxLen; omega))
      have HCT : Hid (w.cell? (pt.add x) = some (.int .u64 (ts.getD x 0))) := by
        obtain ⟨p', e, h⟩ := HTS.out.rd.at_ hlt
        cases e
        exact Lib.hid h
      obtain ⟨b, hb⟩ : ∃ b, b = ts.getD x 0 := ⟨_, rfl⟩
      have hf2 := Lib.hid (hf2.out b)
      generalize fs.getD x 0 = a at hcf
      have hf1 := Lib.hid (hf1.out a)
      generalize fs.take x = fl at *
      generalize htl : ts.take x = tl at *
      rw [← hb] at hct HCT
      have HB := Lib.hid hb
      have HTL := Lib.hid htl
      have HU := Lib.hid hU
      clear hU hb htl
      have hcut : ∃ b0 : Bool, (b0 = false → b ∉ tl) ∧ b0 = (decide (a ∈ fl) || decide (b ∈ tl)) := ⟨_, fun q => by
        rw [Bool.or_eq_false_iff] at q
        exact of_decide_eq_false q.2, rfl⟩
      obtain ⟨b0, hb0, hbe⟩ := hcut
      have HB0 := Lib.hid hb0
      clear hb0
      generalize decide (a ∈ fl) = d1 at *
      generalize decide (b ∈ tl) = d2 at *
      have hs1 := fun w => (run_cut (some pf) nt cf x (by omega) (fun q => by cases q) w).1
      have hs2 := fun w => (run_cut (some pf) nt cf x (by omega) (fun q => by cases q) w).2
      have hs3 := fun w => (run_cut (some pt) nt ct x (by omega) (fun q => by cases q) w).1
      have hs4 := fun w => (run_cut (some pt) nt ct x (by omega) (fun q => by cases q) w).2
      have HBE := Lib.hid hbe
      have hlt' : x < ts.length := by rw [HNT.out]; exact hlt
      clear hbe
      cases d1
      · have HQ0 : Hid (d2 = false → b ∉ tl) := Lib.hid (fun q => HB0.out (by rw [HBE.out, q]; rfl))
        go_wp2_with (fail)
        go_quiet ((go_at_call 26; first | with_reducible exact quiet9 (hf1.out _) | with_reducible exact quiet9 (hf2.out _)))
        have hUq := HU.out.drewN nq
        generalize World.drewN wb nq = wq at hUq ⊢
        have HUq := Lib.hid hUq
        clear hUq hct hcf hs1 hs2 hs3 hs4 hf1 hf2 HRF HRT HU HBE HB0
        go_wp2_with (fail)
        go_loopw [9, 10] (fun u9 u10 wr => IRel w b tl L n u9 u10 wr) (fun _ i _ => n - (intOf i).toNat)
        case atStart => exact ⟨0, _, Nat.zero_le _, rfl, rfl, fun q => ⟨HQ0.out q, fun j hj => absurd hj (by omega)⟩, HUq.out⟩
        case round =>
          rename World => wc
          clear HUq HQ0
          obtain ⟨k, q, hkn, rfl, rfl, hq9, hU⟩ := hrel
          have HQ := Lib.hid hq9
          clear hq9
          by_cases hk : k < n
          · obtain ⟨pl, ul, rfl, hcl, hsl⟩ := (HL.out.up hU).at_ hk
            have hlm := hsl.max
            have hct := hU.cell HCT.out
            have HQS := Lib.hid (fun (r : Bool) (hr : r = decide (b ∈ L.getD k [])) (h : (q || r) = false) => seen_step k HQ.out r hr h)
            have hf3 := Lib.hid (fun m => rhas_any' ul (L.getD k []) b (wc.drewN m) (hsl.up ((Up.refl wc).drewN m)))
            obtain ⟨r, hr⟩ : ∃ r, r = decide (b ∈ L.getD k []) := ⟨_, rfl⟩
            rw [← hr] at hf3
            have HQS := Lib.hid (HQS.out r hr)
            obtain ⟨Al, cl, rfl, -⟩ := hsl
            generalize (L.getD k []).length = kl at *
            have HU := Lib.hid hU
            clear hU hr HQ
            cases q
            · go_wp2_with (fail)
              go_quiet ((go_at_call 26; with_reducible exact quiet9 (hf3.out _)))
              go_wp2
              go_roundw
              case rel => exact ⟨k + 1, r, by omega, rfl, by go_num, fun h => HQS.out (by rw [h]; rfl), HU.out.drewN nq⟩
              case measure => simp [intOf]; omega
            · go_wp2_with (fail)
              go_quiet ((go_at_call 26; with_reducible exact quiet9 (hf3.out _)))
              go_wp2
              go_roundw
              case rel => exact ⟨k + 1, true, by omega, rfl, by go_num, fun h => (by cases h), HU.out.drewN nq⟩
              case measure => simp [intOf]; omega
          · obtain rfl : k = n := by omega
            have HU := Lib.hid hU
            clear hU
            cases q
            · have HS1 := Lib.hid (seen_one HSE.out hlt' HB.out HTL.out HN.out (HQ.out rfl))
              go_wp2
              go_roundw
              case rel => exact ⟨x + 1, by omega, by go_num, HS1.out, HU.out⟩
              case measure => simp [intOf]; omega
            · go_wp2
              go_ret
              exact ⟨rfl, HU.out⟩
      · have HQ0 : Hid (true = false → b ∉ tl) := Lib.hid (fun q => by cases q)
        go_wp2_with (fail)
        go_quiet ((go_at_call 26; first | with_reducible exact quiet9 (hf1.out _) | with_reducible exact quiet9 (hf2.out _)))
        have hUq := HU.out.drewN nq
        generalize World.drewN wb nq = wq at hUq ⊢
        have HUq := Lib.hid hUq
        clear hUq hct hcf hs1 hs2 hs3 hs4 hf1 hf2 HRF HRT HU HBE HB0
        go_wp2_with (fail)
        go_loopw [9, 10] (fun u9 u10 wr => IRel w b tl L n u9 u10 wr) (fun _ i _ => n - (intOf i).toNat)
        case atStart => exact ⟨0, _, Nat.zero_le _, rfl, rfl, fun q => ⟨HQ0.out q, fun j hj => absurd hj (by omega)⟩, HUq.out⟩
        case round =>
          rename World => wc
          clear HUq HQ0
          obtain ⟨k, q, hkn, rfl, rfl, hq9, hU⟩ := hrel
          have HQ := Lib.hid hq9
          clear hq9
          by_cases hk : k < n
          · obtain ⟨pl, ul, rfl, hcl, hsl⟩ := (HL.out.up hU).at_ hk
            have hlm := hsl.max
            have hct := hU.cell HCT.out
            have HQS := Lib.hid (fun (r : Bool) (hr : r = decide (b ∈ L.getD k [])) (h : (q || r) = false) => seen_step k HQ.out r hr h)
            have hf3 := Lib.hid (fun m => rhas_any' ul (L.getD k []) b (wc.drewN m) (hsl.up ((Up.refl wc).drewN m)))
            obtain ⟨r, hr⟩ : ∃ r, r = decide (b ∈ L.getD k []) := ⟨_, rfl⟩
            rw [← hr] at hf3
            have HQS := Lib.hid (HQS.out r hr)
            obtain ⟨Al, cl, rfl, -⟩ := hsl
            generalize (L.getD k []).length = kl at *
            have HU := Lib.hid hU
            clear hU hr HQ
            cases q
            · go_wp2_with (fail)
              go_quiet ((go_at_call 26; with_reducible exact quiet9 (hf3.out _)))
              go_wp2
              go_roundw
              case rel => exact ⟨k + 1, r, by omega, rfl, by go_num, fun h => HQS.out (by rw [h]; rfl), HU.out.drewN nq⟩
              case measure => simp [intOf]; omega
            · go_wp2_with (fail)
              go_quiet ((go_at_call 26; with_reducible exact quiet9 (hf3.out _)))
              go_wp2
              go_roundw
              case rel => exact ⟨k + 1, true, by omega, rfl, by go_num, fun h => (by cases h), HU.out.drewN nq⟩
              case measure => simp [intOf]; omega
          · obtain rfl : k = n := by omega
            have HU := Lib.hid hU
            clear hU
            cases q
            · have HS1 := Lib.hid (seen_one HSE.out hlt' HB.out HTL.out HN.out (HQ.out rfl))
              go_wp2
              go_roundw
              case rel => exact ⟨x + 1, by omega, by go_num, HS1.out, HU.out⟩
              case measure => simp [intOf]; omega
            · go_wp2
              go_ret
              exact ⟨rfl, HU.out⟩
    · obtain rfl : x = nt := by omega
      have HE := Lib.hid (HTH.out HSE.out)
      rw [HE.out] at hy
      have HU := Lib.hid hU
      clear hU
      go_wp2_with (fail)
      refine (hx.out _ HU.out).mono ?_
      rintro e w2 ⟨y, rfl, hs2, k2⟩
      have hy := Lib.hid (fun w' (k : Up w2 w') => hy.out w' ((HU.out.trans k2).trans k) y (hs2.up k))
      have HU2 := Lib.hid (HU.out.trans k2)
      obtain ⟨YA, Yc, rfl, -⟩ := hs2
      clear k2
      go_wp2_with (fail)
      refine (hy.out _ (Up.refl _)).mono ?_
      rintro e w3 ⟨z, rfl, hs3, k3⟩
      have hq := Lib.hid (fun w' (k : Up w3 w') => hq.out w' ((HU2.out.trans k3).trans k) z (hs3.up k))
      have HU3 := Lib.hid (HU2.out.trans k3)
      obtain ⟨ZA, Zc, rfl, -⟩ := hs3
      clear k3
      go_wp2_with (fail)
      refine (hq.out _ (Up.refl _)).mono ?_
      rintro e w4 ⟨rfl, k4⟩
      have HU4 := Lib.hid (HU3.out.trans k4)
      clear k4
      go_wp2
      go_ret
      exact ⟨rfl, HU4.out⟩

theorem walk (v f t : Value) (L : List (List Int)) (fs ts : List Int) (w : World) (hL : Rw w v L) (hf : Sl w f fs) (ht : Sl w t ts) (hF : Fit L) (hfu : ∀ x ∈ fs, U64 x) (htu : ∀ x ∈ ts, U64 x) : Calls Try.prog 7 #[v, f, t] w (fun e w' => e = .returned (.bool true) ∧ Up w w') := by
  by_cases h : fs.length = ts.length
  · exact walk_is v f t L fs ts w hL hf ht hF hfu htu h
  · obtain ⟨A, c, rfl, -⟩ := hL
    obtain ⟨Af, cf, rfl, -⟩ := hf
    obtain ⟨At, ct, rfl, -⟩ := ht
    exact walk_len A Af At _ _ _ c cf ct w h

theorem own : ownKnob Try.prog.godebug = none := by kernel_rfl
set_option maxRecDepth 100000 in
theorem lifted (os : Os) (started : os.Started) (H : Type) (enc : TypeId × Value → H) :
    ReturnsInHanded {} Try.checked os 7 .any (Rows.stackThereSpec.pre6 enc Try.prog Try.f7 Rows.stackThereRow.domain false) (Rows.stackThereSpec.post enc Try.prog Try.f7 false true false false) := by
  refine returnsInHanded_of_change_sized (C := Try.checked) own started (by kernel_rfl) Try.func7
    (ChangeSpec.witness6 (enc := enc) (C := Try.checked) false ⟨#[], #[.slice none 0 0, .slice none 0 0, .slice none 0 0], []⟩ 8 (by kernel_rfl) (by kernel_rfl) (by kernel_rfl) (by kernel_rfl)) ?_
  intro W base args ds gs before hval0 hW hcnd hsz0 _
  have hval : ∀ (j : Nat) t v, Try.f7.params[j]? = some t → args[j]? = some v → Value.okWide Try.prog W .any base t v := hval0
  have hW' := hW
  obtain ⟨p, q, hA0, hV, rfl, hfz, hnd⟩ := hW
  have hA : DataW.TrodAll enc Try.prog W 0 (fun _ => true) true Try.f7.params.toList args.toList ds p := hA0
  rw [Try.params7] at hA hval
  obtain ⟨v0, vs0, d0, ds0, p0, q0, hargs, rfl, rfl, h0, r0⟩ := trodAll_cons hA
  obtain ⟨v1, vs1, d1, ds1, p1, q1, rfl, rfl, rfl, h1, r1⟩ := trodAll_cons r0
  obtain ⟨v2, vs2, d2, ds2, p2, q2, rfl, rfl, rfl, h2, r2⟩ := trodAll_cons r1
  obtain ⟨rfl, rfl, rfl⟩ := trodAll_nil r2
  obtain rfl : args = #[v0, v1, v2] := by cases args; simp_all
  obtain ⟨rfl, rfl⟩ := trodVars_none hV
  have l0 : Light 24 d0 := fun n hn => by
    have := List.all_eq_true.1 hsz0 n (DataW.weights_mem_each (j := 0) (t := 24) (d := d0) (by kernel_rfl) rfl n hn)
    simpa using this
  have l1 : Light 22 d1 := fun n hn => by
    have := List.all_eq_true.1 hsz0 n (DataW.weights_mem_each (j := 1) (t := 22) (d := d1) (by kernel_rfl) rfl n hn)
    simpa using this
  have l2 : Light 22 d2 := fun n hn => by
    have := List.all_eq_true.1 hsz0 n (DataW.weights_mem_each (j := 2) (t := 22) (d := d2) (by kernel_rfl) rfl n hn)
    simpa using this
  clear hsz0
  have h0k := h0
  obtain ⟨xs0, s0, u0, b0, y0⟩ := rows_at (hval 0 24 v0 rfl rfl) h0
  have h1k := h1
  obtain ⟨xs1, s1, u1, b1, y1⟩ := words_at (hval 1 22 v1 rfl rfl) h1
  have h2k := h2
  obtain ⟨xs2, s2, u2, b2, y2⟩ := words_at (hval 2 22 v2 rfl rfl) h2
  clear hA0 hval0
  simp only [List.append_nil, List.nil_append] at hW'
  refine (walk v0 v1 v2 xs0 xs1 xs2 W s0 s1 s2 (y0 l0) u1 u2).mono fun e W' ⟨he, hg⟩ => ?_
  subst he
  exact ⟨_, rfl, post_below (pa := p0 ++ (p1 ++ p2)) (pv := []) hW' (fun _ _ _ => (trodAll_cons_mk (shut_bool Try.underlying4 _) trodAll_mk0))
    (fun sp hsp => by
      have t := (trodAll_cons_mk (trod_keeps (sp := sp) (by kernel_rfl) (of_decide_eq_true (by kernel_rfl)) h0k hg (fun x hx => hW'.lt x (by simp [hx])) (fun x hx => hsp x (by simp [hx]))) (trodAll_cons_mk (trod_keeps (sp := sp) (by kernel_rfl) (of_decide_eq_true (by kernel_rfl)) h1k hg (fun x hx => hW'.lt x (by simp [hx])) (fun x hx => hsp x (by simp [hx]))) (trodAll_cons_mk (trod_keeps (sp := sp) (by kernel_rfl) (of_decide_eq_true (by kernel_rfl)) h2k hg (fun x hx => hW'.lt x (by simp [hx])) (fun x hx => hsp x (by simp [hx]))) trodAll_mk0)))
      simp only [List.append_nil, List.nil_append] at t
      exact t) (fun _ _ => rfl) (by simp)
    hg (ok_one (by kernel_rfl) rfl (okWide_bool_mk Try.underlying4 _))⟩

set_option maxRecDepth 100000 in
theorem over : Rows.stackThereRow.holds Try.pinned (OpenSpec.ofChange Rows.stackThereSpec) :=
  OpenClaim.holds_of_wide 7 Try.f7 rfl rfl rfl rfl rfl rfl rfl ⟨rfl, rfl, rfl, rfl, rfl⟩ rfl rfl rfl rfl rfl (by kernel_rfl) Try.func7 (by kernel_rfl)
    (of_decide_eq_true (by kernel_rfl)) (by unfold Func.isWrapper; first | (rw [if_pos (by decide +kernel)]; kernel_rfl) | (rw [if_neg (by decide +kernel)]; exact ⟨rfl, rfl⟩))
    (fun os started H enc _ => lifted os started H enc)

theorem proved : Rows.StackThereSaid :=
  over
#print axioms proved
end Go.Proofs.Ytpbbbgcafphplaa.LStackThere
