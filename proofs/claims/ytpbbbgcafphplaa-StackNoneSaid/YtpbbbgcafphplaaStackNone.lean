/- The statement StackNone is proved for every input, from contracts of the functions that it calls; no condition is added. -/
import Derived.Test.YtpbbbgcafphplaaSk10
import Derived.BigQuiet
namespace Go.Proofs.Ytpbbbgcafphplaa.LStackNone
open Go.Joins Go.ChangeShapes Go.Shelf Go.Maps Go.WideShapes Go.ChangeAt Go.RowKit Go.Deep
set_option linter.unusedVariables false
set_option linter.unusedSimpArgs false

theorem turned_nil (ts : List Int) (L : List (List Int)) : turned [] ts L = L := by
  have h : ∀ a, tof [] ts a = a := fun a => if_neg (by simp)
  unfold turned
  rw [List.map_congr_left (g := id) (fun xs _ => by rw [List.map_congr_left (g := id) (fun a _ => h a), List.map_id]; rfl), List.map_id]
theorem turned_len (fs ts : List Int) (L : List (List Int)) : (turned fs ts L).length = L.length := by simp [turned]
theorem turned_at (fs ts : List Int) (L : List (List Int)) {x : Nat} (h : x < L.length) : ((turned fs ts L).getD x []).length = (L.getD x []).length := by
  simp [turned, List.getD, List.getElem?_eq_getElem h]
def ORel (w0 : World) (n : Nat) (i : Value) (wr : World) : Prop := ∃ x : Nat, x ≤ n ∧ i = .int .i64 x ∧ Up w0 wr
set_option maxRecDepth 100000 in
set_option maxHeartbeats 4000000 in
theorem walk (v f t : Value) (L : List (List Int)) (fs ts : List Int) (w : World) (hL : Rw w v L) (hf : Sl w f fs) (ht : Sl w t ts) (hF : Fit L) (hfu : ∀ x ∈ fs, U64 x) :
    Calls Try.prog 10 #[v, f, t] w (fun e w' => e = .returned (.bool true) ∧ Up w w') := by
  have hx := fun w' (k : Up w w') => turn_any v (.slice none 0 0) t L [] ts w' (hL.up k) (Sl.nil _) (ht.up k) hF (fun x h => by cases h)
  rw [turned_nil] at hx
  have hx := Lib.hid hx
  have hy := Lib.hid (fun w' (k : Up w w') => turn_any v f t L fs ts w' (hL.up k) (hf.up k) (ht.up k) hF hfu)
  have HKL := Lib.hid (turned_len fs ts L)
  have HKA := Lib.hid (fun (x : Nat) h => turned_at fs ts L (x := x) h)
  generalize turned fs ts L = K at *
  have hm := hL.max
  have HL := Lib.hid hL
  have HLM := Lib.hid (fun (x : Nat) (h : x < L.length) => hF.l _ (getD_mem [] h))
  obtain ⟨A, c, rfl, -⟩ := hL
  obtain ⟨Af, cf, rfl, -⟩ := hf
  obtain ⟨At, ct, rfl, -⟩ := ht
  clear hF hfu
  generalize hn : L.length = n at *
  have HN := Lib.hid hn
  generalize fs.length = nf at *
  generalize ts.length = nt at *
  unfold maxLen at hm
  clear hn
  go_enter Try.func10, Try.ntmps10
  have U0 : Up w w := Up.refl w
  go_wp2_with (fail)
  refine (shown_any _).mono ?_
  rintro e w1 ⟨rfl, k1⟩
  have U1 := U0.trans k1
  clear k1
  go_wp2_with (fail)
  refine (hx.out _ U1).mono ?_
  rintro e w2 ⟨x, rfl, hs2, k2⟩
  have U2 := U1.trans k2
  clear k2
  have HX := Lib.hid hs2
  obtain ⟨XA, Xc, rfl, -⟩ := hs2
  rw [HN.out] at *
  go_wp2_with (fail)
  refine (hy.out _ U2).mono ?_
  rintro e w3 ⟨y, rfl, hs3, k3⟩
  have U3 := U2.trans k3
  have HX3 := Lib.hid (HX.out.up k3)
  have HY3 := Lib.hid hs3
  have HL3 := Lib.hid (HL.out.up U3)
  obtain ⟨YA, Yc, rfl, -⟩ := hs3
  rw [HKL.out] at *
  clear HX HL hx hy
  have HU3 := Lib.hid U3
  clear k3 U3 U2 U1 U0
  go_wp2_with (fail)
  go_loopw [10] (fun i wr => ORel w3 n i wr) (fun i _ => n - (intOf i).toNat)
  case atStart => exact ⟨0, Nat.zero_le _, rfl, Up.refl _⟩
  case round =>
    rename World => wb
    obtain ⟨x, hxn, rfl, hU⟩ := hrel
    by_cases hlt : x < n
    · obtain ⟨px, ux, rfl, hcx, hsx⟩ := HX3.out.at_ hlt
      obtain ⟨py, uy, rfl, hcy, hsy⟩ := HY3.out.at_ hlt
      obtain ⟨pl, ul, rfl, hcl, hsl⟩ := HL3.out.at_ hlt
      have hka := HKA.out x hlt
      have hlm := HLM.out x hlt
      generalize L.getD x [] = xs at *
      generalize K.getD x [] = ys at *
      have HSX := Lib.hid hsx
      have HSL := Lib.hid hsl
      obtain ⟨Ax, cx, rfl, -⟩ := hsx
      obtain ⟨Ay, cy, rfl, -⟩ := hsy
      obtain ⟨Al, cl, rfl, -⟩ := hsl
      rw [hka] at hcy
      clear hka
      generalize xs.length = k at *
      have HCX := Lib.hid hcx
      have HCL := Lib.hid hcl
      have hcx1 := hU.cell hcx
      have hcy1 := hU.cell hcy
      have hcl1 := hU.cell hcl
      have HU := Lib.hid hU
      clear hcx hcy hcl hU
      go_wp2_with (fail)
      go_quiet (fail)
      have hUq := HU.out.drewN nq
      generalize World.drewN wb nq = wq at hUq ⊢
      have HUq := Lib.hid hUq
      clear hUq hcx1 hcy1 hcl1 HU
      go_wp2_with (fail)
      go_loopw [11] (fun i wr => ORel w3 k i wr) (fun i _ => k - (intOf i).toNat)
      case atStart => exact ⟨0, Nat.zero_le _, rfl, HUq.out⟩
      case round =>
        clear HUq
        obtain ⟨h, hhk, rfl, hU⟩ := hrel
        have hcx1 := hU.cell HCX.out
        have hcl1 := hU.cell HCL.out
        by_cases hh : h < k
        · obtain ⟨qx, rfl, hax⟩ := (HSX.out.up hU).rd.at_ hh
          obtain ⟨ql, rfl, hal⟩ := (HSL.out.up hU).rd.at_ hh
          generalize xs.getD h 0 = a at hax hal
          have HU := Lib.hid hU
          clear hU
          go_wp2_with (fail)
          go_quiet (fail)
          go_wp2
          exact ⟨⟨h + 1, by omega, by go_num, HU.out.drewN nq⟩, by simp [intOf]; omega⟩
        · obtain rfl : h = k := by omega
          have HU := Lib.hid hU
          clear hU
          go_wp2
          exact ⟨⟨x + 1, by omega, by go_num, HU.out⟩, by simp [intOf]; omega⟩
    · obtain rfl : x = n := by omega
      have HU := Lib.hid (HU3.out.trans hU)
      clear hU
      go_wp2
      go_ret
      exact ⟨rfl, HU.out⟩

theorem own : ownKnob Try.prog.godebug = none := by kernel_rfl
set_option maxRecDepth 100000 in
theorem lifted (os : Os) (started : os.Started) (H : Type) (enc : TypeId × Value → H) :
    ReturnsInHanded {} Try.checked os 10 .any (Rows.stackNoneSpec.pre6 enc Try.prog Try.f10 Rows.stackNoneRow.domain false) (Rows.stackNoneSpec.post enc Try.prog Try.f10 false true false false) := by
  refine returnsInHanded_of_change_sized (C := Try.checked) own started (by kernel_rfl) Try.func10
    (ChangeSpec.witness6 (enc := enc) (C := Try.checked) false ⟨#[], #[.slice none 0 0, .slice none 0 0, .slice none 0 0], []⟩ 8 (by kernel_rfl) (by kernel_rfl) (by kernel_rfl) (by kernel_rfl)) ?_
  intro W base args ds gs before hval0 hW hcnd hsz0 _
  have hval : ∀ (j : Nat) t v, Try.f10.params[j]? = some t → args[j]? = some v → Value.okWide Try.prog W .any base t v := hval0
  have hW' := hW
  obtain ⟨p, q, hA0, hV, rfl, hfz, hnd⟩ := hW
  have hA : DataW.TrodAll enc Try.prog W 0 (fun _ => true) true Try.f10.params.toList args.toList ds p := hA0
  rw [Try.params10] at hA hval
  obtain ⟨v0, vs0, d0, ds0, p0, q0, hargs, rfl, rfl, h0, r0⟩ := trodAll_cons hA
  obtain ⟨v1, vs1, d1, ds1, p1, q1, rfl, rfl, rfl, h1, r1⟩ := trodAll_cons r0
  obtain ⟨v2, vs2, d2, ds2, p2, q2, rfl, rfl, rfl, h2, r2⟩ := trodAll_cons r1
  obtain ⟨rfl, rfl, rfl⟩ := trodAll_nil r2
  obtain rfl : args = #[v0, v1, v2] := by cases args; simp_all
  obtain ⟨rfl, rfl⟩ := trodVars_none hV
  have l0 : Light 24 d0 := fun n hn => by
    have := List.all_eq_true.1 hsz0 n (DataW.weights_mem_each (j := 0) (t := 24) (d := d0) (by kernel_rfl) rfl n hn)
    simpa using this
  have l1 : Light 22 d1 := fun n hn => by
    have := List.all_eq_true.1 hsz0 n (DataW.weights_mem_each (j := 1) (t := 22) (d := d1) (by kernel_rfl) rfl n hn)
    simpa using this
  have l2 : Light 22 d2 := fun n hn => by
    have := List.all_eq_true.1 hsz0 n (DataW.weights_mem_each (j := 2) (t := 22) (d := d2) (by kernel_rfl) rfl n hn)
    simpa using this
  clear hsz0
  have h0k := h0
  obtain ⟨xs0, s0, u0, b0, y0⟩ := rows_at (hval 0 24 v0 rfl rfl) h0
  have h1k := h1
  obtain ⟨xs1, s1, u1, b1, y1⟩ := words_at (hval 1 22 v1 rfl rfl) h1
  have h2k := h2
  obtain ⟨xs2, s2, u2, b2, y2⟩ := words_at (hval 2 22 v2 rfl rfl) h2
  clear hA0 hval0
  simp only [List.append_nil, List.nil_append] at hW'
  refine (walk v0 v1 v2 xs0 xs1 xs2 W s0 s1 s2 (y0 l0) u1).mono fun e W' ⟨he, hg⟩ => ?_
  subst he
  exact ⟨_, rfl, post_below (pa := p0 ++ (p1 ++ p2)) (pv := []) hW' (fun _ _ _ => (trodAll_cons_mk (shut_bool Try.underlying4 _) trodAll_mk0))
    (fun sp hsp => by
      have t := (trodAll_cons_mk (trod_keeps (sp := sp) (by kernel_rfl) (of_decide_eq_true (by kernel_rfl)) h0k hg (fun x hx => hW'.lt x (by simp [hx])) (fun x hx => hsp x (by simp [hx]))) (trodAll_cons_mk (trod_keeps (sp := sp) (by kernel_rfl) (of_decide_eq_true (by kernel_rfl)) h1k hg (fun x hx => hW'.lt x (by simp [hx])) (fun x hx => hsp x (by simp [hx]))) (trodAll_cons_mk (trod_keeps (sp := sp) (by kernel_rfl) (of_decide_eq_true (by kernel_rfl)) h2k hg (fun x hx => hW'.lt x (by simp [hx])) (fun x hx => hsp x (by simp [hx]))) trodAll_mk0)))
      simp only [List.append_nil, List.nil_append] at t
      exact t) (fun _ _ => rfl) (by simp)
    hg (ok_one (by kernel_rfl) rfl (okWide_bool_mk Try.underlying4 _))⟩

set_option maxRecDepth 100000 in
theorem over : Rows.stackNoneRow.holds Try.pinned (OpenSpec.ofChange Rows.stackNoneSpec) :=
  OpenClaim.holds_of_wide 10 Try.f10 rfl rfl rfl rfl rfl rfl rfl ⟨rfl, rfl, rfl, rfl, rfl⟩ rfl rfl rfl rfl rfl (by kernel_rfl) Try.func10 (by kernel_rfl)
    (of_decide_eq_true (by kernel_rfl)) (by unfold Func.isWrapper; first | (rw [if_pos (by decide +kernel)]; kernel_rfl) | (rw [if_neg (by decide +kernel)]; exact ⟨rfl, rfl⟩))
    (fun os started H enc _ => lifted os started H enc)

theorem proved : Rows.StackNoneSaid :=
  over
#print axioms proved
end Go.Proofs.Ytpbbbgcafphplaa.LStackNone
