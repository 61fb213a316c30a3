/- The statement StackTurns is proved for every input, from contracts of the functions that it calls; no condition is added. -/
import Derived.Test.YtpbbbgcafphplaaSk10
namespace Go.Proofs.Ytpbbbgcafphplaa.LStackTurns
open Go.Joins Go.ChangeShapes Go.Shelf Go.Maps Go.WideShapes Go.ChangeAt Go.RowKit Go.Deep
set_option linter.unusedVariables false
set_option linter.unusedSimpArgs false

set_option maxRecDepth 100000 in
set_option maxHeartbeats 4000000 in
theorem walk (v f t : Value) (L : List (List Int)) (fs ts : List Int) (w : World) (hL : Rw w v L) (hf : Sl w f fs) (ht0 : Sl w t ts) (hF : Fit L) (hfu : ∀ x ∈ fs, U64 x) :
    Calls Try.prog 4 #[v, f, t] w (fun e w' => e = .returned (.bool true) ∧ Up w w') := by
  have ht := Lib.hid (fun w' (k : Up w w') => turn_any v f t L fs ts w' (hL.up k) (hf.up k) (ht0.up k) hF hfu)
  have hr := Lib.hid (fun w' (k : Up w w') => rturn_any v f t L fs ts w' (hL.up k) (hf.up k) (ht0.up k) hF)
  obtain ⟨A, c, rfl, -⟩ := hL
  obtain ⟨Af, cf, rfl, -⟩ := hf
  obtain ⟨At, ct, rfl, -⟩ := ht0
  clear hF hfu
  generalize turned fs ts L = K at *
  generalize L.length = n at *
  generalize fs.length = nf at *
  generalize ts.length = nt at *
  go_enter Try.func4, Try.ntmps4
  have U0 : Up w w := Up.refl w
  go_wp2_with (fail)
  refine (shown_any _).mono ?_
  rintro e w1 ⟨rfl, k1⟩
  have U1 := U0.trans k1
  clear k1
  go_wp2_with (fail)
  refine (ht.out _ U1).mono ?_
  rintro e w2 ⟨x, rfl, hs, k2⟩
  have U2 := U1.trans k2
  clear k2
  have hs2 := Lib.hid hs
  obtain ⟨XA, Xc, rfl, -⟩ := hs
  go_wp2_with (fail)
  refine (hr.out _ U2).mono ?_
  rintro e w3 ⟨y, rfl, ht3, k3⟩
  have U3 := U2.trans k3
  have hq := Lib.hid (fun w' (k : Up w3 w') => rrows_any _ _ _ _ w' ((hs2.out.up k3).up k) (ht3.up k))
  rw [decide_eq_true rfl] at hq
  obtain ⟨YA, Yc, rfl, -⟩ := ht3
  go_wp2_with (fail)
  refine (hq.out _ (Up.refl _)).mono ?_
  rintro e w4 ⟨rfl, k4⟩
  have U4 := U3.trans k4
  go_wp2
  go_ret
  exact ⟨rfl, U4⟩

theorem own : ownKnob Try.prog.godebug = none := by kernel_rfl
set_option maxRecDepth 100000 in
theorem lifted (os : Os) (started : os.Started) (H : Type) (enc : TypeId × Value → H) :
    ReturnsInHanded {} Try.checked os 4 .any (Rows.stackTurnsSpec.pre6 enc Try.prog Try.f4 Rows.stackTurnsRow.domain false) (Rows.stackTurnsSpec.post enc Try.prog Try.f4 false true false false) := by
  refine returnsInHanded_of_change_sized (C := Try.checked) own started (by kernel_rfl) Try.func4
    (ChangeSpec.witness6 (enc := enc) (C := Try.checked) false ⟨#[], #[.slice none 0 0, .slice none 0 0, .slice none 0 0], []⟩ 8 (by kernel_rfl) (by kernel_rfl) (by kernel_rfl) (by kernel_rfl)) ?_
  intro W base args ds gs before hval0 hW hcnd hsz0 _
  have hval : ∀ (j : Nat) t v, Try.f4.params[j]? = some t → args[j]? = some v → Value.okWide Try.prog W .any base t v := hval0
  have hW' := hW
  obtain ⟨p, q, hA0, hV, rfl, hfz, hnd⟩ := hW
  have hA : DataW.TrodAll enc Try.prog W 0 (fun _ => true) true Try.f4.params.toList args.toList ds p := hA0
  rw [Try.params4] at hA hval
  obtain ⟨v0, vs0, d0, ds0, p0, q0, hargs, rfl, rfl, h0, r0⟩ := trodAll_cons hA
  obtain ⟨v1, vs1, d1, ds1, p1, q1, rfl, rfl, rfl, h1, r1⟩ := trodAll_cons r0
  obtain ⟨v2, vs2, d2, ds2, p2, q2, rfl, rfl, rfl, h2, r2⟩ := trodAll_cons r1
  obtain ⟨rfl, rfl, rfl⟩ := trodAll_nil r2
  obtain rfl : args = #[v0, v1, v2] := by cases args; simp_all
  obtain ⟨rfl, rfl⟩ := trodVars_none hV
  have l0 : Light 24 d0 := fun n hn => by
    have := List.all_eq_true.1 hsz0 n (DataW.weights_mem_each (j := 0) (t := 24) (d := d0) (by kernel_rfl) rfl n hn)
    simpa using this
  have l1 : Light 22 d1 := fun n hn => by
    have := List.all_eq_true.1 hsz0 n (DataW.weights_mem_each (j := 1) (t := 22) (d := d1) (by kernel_rfl) rfl n hn)
    simpa using this
  have l2 : Light 22 d2 := fun n hn => by
    have := List.all_eq_true.1 hsz0 n (DataW.weights_mem_each (j := 2) (t := 22) (d := d2) (by kernel_rfl) rfl n hn)
    simpa using this
  clear hsz0
  have h0k := h0
  obtain ⟨xs0, s0, u0, b0, y0⟩ := rows_at (hval 0 24 v0 rfl rfl) h0
  have h1k := h1
  obtain ⟨xs1, s1, u1, b1, y1⟩ := words_at (hval 1 22 v1 rfl rfl) h1
  have h2k := h2
  obtain ⟨xs2, s2, u2, b2, y2⟩ := words_at (hval 2 22 v2 rfl rfl) h2
  clear hA0 hval0
  simp only [List.append_nil, List.nil_append] at hW'
  refine (walk v0 v1 v2 xs0 xs1 xs2 W s0 s1 s2 (y0 l0) u1).mono fun e W' ⟨he, hg⟩ => ?_
  subst he
  exact ⟨_, rfl, post_below (pa := p0 ++ (p1 ++ p2)) (pv := []) hW' (fun _ _ _ => (trodAll_cons_mk (shut_bool Try.underlying4 _) trodAll_mk0))
    (fun sp hsp => by
      have t := (trodAll_cons_mk (trod_keeps (sp := sp) (by kernel_rfl) (of_decide_eq_true (by kernel_rfl)) h0k hg (fun x hx => hW'.lt x (by simp [hx])) (fun x hx => hsp x (by simp [hx]))) (trodAll_cons_mk (trod_keeps (sp := sp) (by kernel_rfl) (of_decide_eq_true (by kernel_rfl)) h1k hg (fun x hx => hW'.lt x (by simp [hx])) (fun x hx => hsp x (by simp [hx]))) (trodAll_cons_mk (trod_keeps (sp := sp) (by kernel_rfl) (of_decide_eq_true (by kernel_rfl)) h2k hg (fun x hx => hW'.lt x (by simp [hx])) (fun x hx => hsp x (by simp [hx]))) trodAll_mk0)))
      simp only [List.append_nil, List.nil_append] at t
      exact t) (fun _ _ => rfl) (by simp)
    hg (ok_one (by kernel_rfl) rfl (okWide_bool_mk Try.underlying4 _))⟩

set_option maxRecDepth 100000 in
theorem over : Rows.stackTurnsRow.holds Try.pinned (OpenSpec.ofChange Rows.stackTurnsSpec) :=
  OpenClaim.holds_of_wide 4 Try.f4 rfl rfl rfl rfl rfl rfl rfl ⟨rfl, rfl, rfl, rfl, rfl⟩ rfl rfl rfl rfl rfl (by kernel_rfl) Try.func4 (by kernel_rfl)
    (of_decide_eq_true (by kernel_rfl)) (by unfold Func.isWrapper; first | (rw [if_pos (by decide +kernel)]; kernel_rfl) | (rw [if_neg (by decide +kernel)]; exact ⟨rfl, rfl⟩))
    (fun os started H enc _ => lifted os started H enc)

theorem proved : Rows.StackTurnsSaid :=
  over
#print axioms proved
end Go.Proofs.Ytpbbbgcafphplaa.LStackTurns
