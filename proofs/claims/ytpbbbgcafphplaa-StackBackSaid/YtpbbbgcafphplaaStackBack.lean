/- The statement StackBack is proved for every input, from contracts of the functions that it calls; no condition is added. -/
import Derived.Test.YtpbbbgcafphplaaSk10
namespace Go.Proofs.Ytpbbbgcafphplaa.LStackBack
open Go.Joins Go.ChangeShapes Go.Shelf Go.Maps Go.WideShapes Go.ChangeAt Go.RowKit Go.Deep
set_option linter.unusedVariables false
set_option linter.unusedSimpArgs false

set_option maxRecDepth 100000 in
set_option maxHeartbeats 4000000 in
theorem walk_full (v : Value) (xs : List Int) (a h : Int) (w : World) (hx : Sl w v xs) (hn : 16 ≤ xs.length) :
    Calls Try.prog 5 #[v, .int .u64 a, .int .i64 h] w (fun e w' => e = .returned (.bool true) ∧ Up w w') := by
  have hp := fun w' (k : Up w w') => push_any v xs a w' (hx.up k)
  rw [show pus xs a = xs from if_neg (by omega), show pue xs = 4 from if_neg (by omega)] at hp
  have hp := Lib.hid hp
  have hxm := hx.max
  obtain ⟨A, c, rfl, -⟩ := hx
  generalize xs.length = n at *
  have hd : decide ((16 : Int) ≤ n) = true := decide_eq_true (by omega)
  go_enter Try.func5, Try.ntmps5
  have U0 : Up w w := Up.refl w
  go_wp2_with (fail)
  refine (shown_any _).mono ?_
  rintro e w1 ⟨rfl, k1⟩
  have U1 := U0.trans k1
  clear k1
  go_wp2_with (fail)
  refine (hp.out _ U1).mono ?_
  rintro e w2 ⟨p, rfl, hs, k2⟩
  have U2 := U1.trans k2
  clear k2
  obtain ⟨A', c', rfl, -⟩ := hs
  go_wp2
  go_ret
  exact ⟨rfl, U2⟩

set_option maxRecDepth 100000 in
set_option maxHeartbeats 4000000 in
theorem walk_at (v : Value) (xs : List Int) (a h : Int) (w : World) (hx : Sl w v xs) (hn : xs.length < 16) (hh : h = xs.length) :
    Calls Try.prog 5 #[v, .int .u64 a, .int .i64 h] w (fun e w' => e = .returned (.bool true) ∧ Up w w') := by
  have hp := fun w' (k : Up w w') => push_any v xs a w' (hx.up k)
  rw [show pus xs a = xs ++ [a] from if_pos hn, show pue xs = 0 from if_pos hn] at hp
  have hp := Lib.hid hp
  have hgl := Lib.hid (fun w' (k : Up w w') => get_any v xs h w' (hx.up k))
  have hl : (xs ++ [a]).length ≤ 17592186044416 := by simp; omega
  have hpos : pos (xs ++ [a]) = xs := by unfold pos; simp
  have hpoe : poe (xs ++ [a]) = 0 := if_neg (by simp)
  have hlen : (xs ++ [a]).length = xs.length + 1 := by simp
  have hg := fun (p : Value) (w' : World) (k : Sl w' p (xs ++ [a])) => get_any p _ (xs.length : Int) w' k
  rw [show gtv (xs ++ [a]) (xs.length : Int) = a from by unfold gtv; rw [if_pos (by simp; omega)]; simp [List.getD], show gte (xs ++ [a]) (xs.length : Int) = 0 from if_pos (by simp; omega)] at hg
  have HX := Lib.hid hx
  have hxm := hx.max
  obtain ⟨A, c, rfl, -⟩ := hx
  generalize hnn : xs.length = n at *
  have hd : (h == (n : Int)) = true := beq_iff_eq.2 hh
  clear hh
  generalize gtv (xs ++ [a]) h = g2 at *
  generalize gte (xs ++ [a]) h = e2 at *
  generalize gtv xs h = g1 at *
  generalize gte xs h = e1 at *
  go_enter Try.func5, Try.ntmps5
  have U0 : Up w w := Up.refl w
  go_wp2_with (fail)
  refine (shown_any _).mono ?_
  rintro e w1 ⟨rfl, k1⟩
  have U1 := U0.trans k1
  clear k1
  go_wp2_with (fail)
  refine (hp.out _ U1).mono ?_
  rintro e w2 ⟨p, rfl, hs, k2⟩
  have U2 := U1.trans k2
  clear k2
  have hg := Lib.hid (hg p)
  have hq := Lib.hid (fun w' (k : Up w2 w') => pop_any p _ w' (hs.up k) hl)
  rw [hpos, hpoe] at hq
  have hgh := Lib.hid (fun w' (k : Up w2 w') => get_any p _ h w' (hs.up k))
  have hs2 := Lib.hid hs
  obtain ⟨A', c', rfl, -⟩ := hs
  rw [hlen] at *
  clear hlen
  go_wp2_with (fail)
  refine (hg.out _ hs2.out).mono ?_
  rintro e w3 ⟨rfl, k3⟩
  have U3 := U2.trans k3
  go_wp2_with (fail)
  refine (hq.out _ k3).mono ?_
  rintro e w4 ⟨x, rfl, hs4, k4⟩
  have U4 := U3.trans k4
  have K4 := k3.trans k4
  have hww := Lib.hid (fun w' (k : Up w4 w') (hv : Sl w' (.slice A n c) xs) => words_any' x _ xs xs w' (hs4.up k) hv)
  rw [decide_eq_true rfl] at hww
  obtain ⟨A4, c4, rfl, -⟩ := hs4
  rw [hnn] at *
  go_wp2_with (fail)
  refine (hgl.out _ U4).mono ?_
  rintro e w5 ⟨rfl, k5⟩
  have U5 := U4.trans k5
  have K5 := K4.trans k5
  go_wp2_with (fail)
  refine (hgh.out _ K5).mono ?_
  rintro e w6 ⟨rfl, k6⟩
  have U6 := U5.trans k6
  go_wp2_with (fail)
  refine (hww.out _ (k5.trans k6) (HX.out.up U6)).mono ?_
  rintro e w7 ⟨rfl, k7⟩
  have U7 := U6.trans k7
  go_wp2
  go_ret
  exact ⟨rfl, U7⟩

set_option maxRecDepth 100000 in
set_option maxHeartbeats 4000000 in
theorem walk_off (v : Value) (xs : List Int) (a h : Int) (w : World) (hx : Sl w v xs) (hn : xs.length < 16) (hh : h ≠ xs.length) :
    Calls Try.prog 5 #[v, .int .u64 a, .int .i64 h] w (fun e w' => e = .returned (.bool true) ∧ Up w w') := by
  have hp := fun w' (k : Up w w') => push_any v xs a w' (hx.up k)
  rw [show pus xs a = xs ++ [a] from if_pos hn, show pue xs = 0 from if_pos hn] at hp
  have hp := Lib.hid hp
  have hgl := Lib.hid (fun w' (k : Up w w') => get_any v xs h w' (hx.up k))
  have hl : (xs ++ [a]).length ≤ 17592186044416 := by simp; omega
  have hpos : pos (xs ++ [a]) = xs := by unfold pos; simp
  have hpoe : poe (xs ++ [a]) = 0 := if_neg (by simp)
  have hlen : (xs ++ [a]).length = xs.length + 1 := by simp
  have hg := fun (p : Value) (w' : World) (k : Sl w' p (xs ++ [a])) => get_any p _ (xs.length : Int) w' k
  rw [show gtv (xs ++ [a]) (xs.length : Int) = a from by unfold gtv; rw [if_pos (by simp; omega)]; simp [List.getD], show gte (xs ++ [a]) (xs.length : Int) = 0 from if_pos (by simp; omega)] at hg
  have hcond : (0 ≤ h ∧ h < (xs ++ [a]).length) ↔ (0 ≤ h ∧ h < xs.length) := by rw [hlen]; omega
  have hgv2 : gtv (xs ++ [a]) h = gtv xs h := by
    unfold gtv
    by_cases k : 0 ≤ h ∧ h < xs.length
    · rw [if_pos (hcond.2 k), if_pos k]
      simp only [List.getD]
      rw [List.getElem?_append_left (by omega)]
    · rw [if_neg (fun q => k (hcond.1 q)), if_neg k]
  have hge2 : gte (xs ++ [a]) h = gte xs h := by
    unfold gte
    by_cases k : 0 ≤ h ∧ h < xs.length
    · rw [if_pos (hcond.2 k), if_pos k]
    · rw [if_neg (fun q => k (hcond.1 q)), if_neg k]
  clear hcond
  have HX := Lib.hid hx
  have hxm := hx.max
  obtain ⟨A, c, rfl, -⟩ := hx
  generalize hnn : xs.length = n at *
  have hd : (h == (n : Int)) = false := beq_eq_false_iff_ne.2 hh
  clear hh
  generalize gtv xs h = g1 at *
  generalize gte xs h = e1 at *
  go_enter Try.func5, Try.ntmps5
  have U0 : Up w w := Up.refl w
  go_wp2_with (fail)
  refine (shown_any _).mono ?_
  rintro e w1 ⟨rfl, k1⟩
  have U1 := U0.trans k1
  clear k1
  go_wp2_with (fail)
  refine (hp.out _ U1).mono ?_
  rintro e w2 ⟨p, rfl, hs, k2⟩
  have U2 := U1.trans k2
  clear k2
  have hg := Lib.hid (hg p)
  have hq := Lib.hid (fun w' (k : Up w2 w') => pop_any p _ w' (hs.up k) hl)
  rw [hpos, hpoe] at hq
  have hgh := Lib.hid (fun w' (k : Up w2 w') => get_any p _ h w' (hs.up k))
  rw [hgv2, hge2] at hgh
  have hs2 := Lib.hid hs
  obtain ⟨A', c', rfl, -⟩ := hs
  rw [hlen] at *
  clear hlen
  go_wp2_with (fail)
  refine (hg.out _ hs2.out).mono ?_
  rintro e w3 ⟨rfl, k3⟩
  have U3 := U2.trans k3
  go_wp2_with (fail)
  refine (hq.out _ k3).mono ?_
  rintro e w4 ⟨x, rfl, hs4, k4⟩
  have U4 := U3.trans k4
  have K4 := k3.trans k4
  have hww := Lib.hid (fun w' (k : Up w4 w') (hv : Sl w' (.slice A n c) xs) => words_any' x _ xs xs w' (hs4.up k) hv)
  rw [decide_eq_true rfl] at hww
  obtain ⟨A4, c4, rfl, -⟩ := hs4
  rw [hnn] at *
  go_wp2_with (fail)
  refine (hgl.out _ U4).mono ?_
  rintro e w5 ⟨rfl, k5⟩
  have U5 := U4.trans k5
  have K5 := K4.trans k5
  go_wp2_with (fail)
  refine (hgh.out _ K5).mono ?_
  rintro e w6 ⟨rfl, k6⟩
  have U6 := U5.trans k6
  go_wp2_with (fail)
  refine (hww.out _ (k5.trans k6) (HX.out.up U6)).mono ?_
  rintro e w7 ⟨rfl, k7⟩
  have U7 := U6.trans k7
  go_wp2
  go_ret
  exact ⟨rfl, U7⟩

theorem walk (v : Value) (xs : List Int) (a h : Int) (w : World) (hx : Sl w v xs) : Calls Try.prog 5 #[v, .int .u64 a, .int .i64 h] w (fun e w' => e = .returned (.bool true) ∧ Up w w') := by
  by_cases hn : xs.length < 16
  · by_cases hh : h = xs.length
    · exact walk_at v xs a h w hx hn hh
    · exact walk_off v xs a h w hx hn hh
  · exact walk_full v xs a h w hx (by omega)

theorem own : ownKnob Try.prog.godebug = none := by kernel_rfl
set_option maxRecDepth 100000 in
theorem lifted (os : Os) (started : os.Started) (H : Type) (enc : TypeId × Value → H) :
    ReturnsInHanded {} Try.checked os 5 .any (Rows.stackBackSpec.pre6 enc Try.prog Try.f5 Rows.stackBackRow.domain false) (Rows.stackBackSpec.post enc Try.prog Try.f5 false true false false) := by
  refine returnsInHanded_of_change (C := Try.checked) own started (by kernel_rfl) Try.func5
    (ChangeSpec.witness6 (enc := enc) (C := Try.checked) false ⟨#[], #[.slice none 0 0, .int .u64 0, .int .i64 0], []⟩ 8 (by kernel_rfl) (by kernel_rfl) (by kernel_rfl) (by kernel_rfl)) ?_
  intro W base args ds gs before hval0 hW hcnd _
  have hval : ∀ (j : Nat) t v, Try.f5.params[j]? = some t → args[j]? = some v → Value.okWide Try.prog W .any base t v := hval0
  have hW' := hW
  obtain ⟨p, q, hA0, hV, rfl, hfz, hnd⟩ := hW
  have hA : DataW.TrodAll enc Try.prog W 0 (fun _ => true) true Try.f5.params.toList args.toList ds p := hA0
  rw [Try.params5] at hA hval
  obtain ⟨v0, vs0, d0, ds0, p0, q0, hargs, rfl, rfl, h0, r0⟩ := trodAll_cons hA
  obtain ⟨v1, vs1, d1, ds1, p1, q1, rfl, rfl, rfl, h1, r1⟩ := trodAll_cons r0
  obtain ⟨v2, vs2, d2, ds2, p2, q2, rfl, rfl, rfl, h2, r2⟩ := trodAll_cons r1
  obtain ⟨rfl, rfl, rfl⟩ := trodAll_nil r2
  obtain rfl : args = #[v0, v1, v2] := by cases args; simp_all
  obtain ⟨rfl, rfl⟩ := trodVars_none hV
  have h0k := h0
  obtain ⟨xs0, s0, u0, b0, y0⟩ := words_at (hval 0 22 v0 rfl rfl) h0
  obtain ⟨a1, rfl, rfl, rfl, w1⟩ := open_int Try.underlying23 (hval 1 23 v1 rfl rfl) h1
  obtain ⟨a2, rfl, rfl, rfl, w2⟩ := open_int Try.underlying3 (hval 2 3 v2 rfl rfl) h2
  clear hA0 hval0
  simp only [List.append_nil, List.nil_append] at hW'
  refine (walk v0 xs0 a1 a2 W s0).mono fun e W' ⟨he, hg⟩ => ?_
  subst he
  exact ⟨_, rfl, post_below (pa := p0) (pv := []) hW' (fun _ _ _ => (trodAll_cons_mk (shut_bool Try.underlying4 _) trodAll_mk0))
    (fun sp hsp => by
      have t := (trodAll_cons_mk (trod_keeps (sp := sp) (by kernel_rfl) (of_decide_eq_true (by kernel_rfl)) h0k hg (fun x hx => hW'.lt x (by simp [hx])) (fun x hx => hsp x (by simp [hx]))) (trodAll_cons_mk (shut_int Try.underlying23 w1) (trodAll_cons_mk (shut_int Try.underlying3 w2) trodAll_mk0)))
      simp only [List.append_nil, List.nil_append] at t
      exact t) (fun _ _ => rfl) (by simp)
    hg (ok_one (by kernel_rfl) rfl (okWide_bool_mk Try.underlying4 _))⟩

set_option maxRecDepth 100000 in
theorem over : Rows.stackBackRow.holds Try.pinned (OpenSpec.ofChange Rows.stackBackSpec) :=
  OpenClaim.holds_of_wide 5 Try.f5 rfl rfl rfl rfl rfl rfl rfl ⟨rfl, rfl, rfl, rfl, rfl⟩ rfl rfl rfl rfl rfl (by kernel_rfl) Try.func5 (by kernel_rfl)
    (of_decide_eq_true (by kernel_rfl)) (by unfold Func.isWrapper; first | (rw [if_pos (by decide +kernel)]; kernel_rfl) | (rw [if_neg (by decide +kernel)]; exact ⟨rfl, rfl⟩))
    (fun os started H enc _ => lifted os started H enc)

theorem proved : Rows.StackBackSaid :=
  over
#print axioms proved
end Go.Proofs.Ytpbbbgcafphplaa.LStackBack
