/- The statement LogOnce is proved for every input, from contracts of the functions that it calls; no condition is added. -/
import Derived.Test.YtgofejhjnbnecaaEn10
import Derived.BigQuiet
namespace Go.Proofs.Ytgofejhjnbnecaa.LLogOnce
open Go.Joins Go.ChangeShapes Go.Shelf Go.Maps Go.WideShapes Go.ChangeAt Go.RowKit Go.Deep
set_option linter.unusedVariables false
set_option linter.unusedSimpArgs false

theorem count_one (l : List Ent) (a : Ent) (h : a ∈ l) : (onc l).count a = 1 := by
  have h1 := List.nodup_iff_count.1 (onc_nodup l) a
  have h2 := List.count_pos_iff.2 ((onc_mem l a).2 h)
  omega
theorem count_step {o : List Ent} {k : Nat} (a : Ent) (h : k < o.length) : (o.take (k + 1)).count a = (o.take k).count a + if o.getD k (0, 0) = a then 1 else 0 := by
  rw [take_one (0, 0) h, List.count_append]
  by_cases e : o.getD k (0, 0) = a
  · rw [if_pos e, e]; simp
  · rw [if_neg e]
    have : List.count a [o.getD k (0, 0)] = 0 := List.count_eq_zero.2 (fun q => e (List.mem_singleton.1 q).symm)
    omega
def ORel (w0 : World) (n : Nat) (i : Value) (wr : World) : Prop := ∃ x : Nat, x ≤ n ∧ i = .int .i64 x ∧ Up w0 wr
def IRel (wb : World) (o : List Ent) (a : Ent) (n : Nat) (s k : Value) (wr : World) : Prop := ∃ x : Nat, x ≤ n ∧ k = .int .i64 x ∧ s = .int .i64 (((o.take x).count a : Nat) : Int) ∧ ∃ m, wr = wb.drewN m
set_option maxRecDepth 100000 in
set_option maxHeartbeats 4000000 in
theorem walk (v : Value) (xs : List Ent) (w : World) (hx : Sl w v xs) (hk : ∀ x ∈ xs, OkE x) (hb : xs.length ≤ 8796093022208) :
    Calls Try.prog 5 #[v] w (fun e w' => e = .returned (.bool true) ∧ Up w w') := by
  have h1 := Lib.hid (fun w' (k : Up w w') => once_any v xs w' (hx.up k) hk hb)
  have hol := onc_len xs
  have h2 := Lib.hid (fun (p : Value) (w' : World) (k : Sl w' p (onc xs)) => once_any p (onc xs) w' k (fun x hx => hk x ((onc_mem xs x).1 hx)) (by omega))
  rw [onc_id (onc_nodup xs)] at h2
  have HC := Lib.hid (fun a (h : a ∈ xs) => count_one xs a h)
  have HX := Lib.hid hx
  generalize onc xs = o at *
  have hxm := hx.max
  obtain ⟨A, c, rfl, -⟩ := hx
  generalize hn : xs.length = n at *
  have HN := Lib.hid hn
  unfold maxLen at hxm
  clear hn hk
  go_enter Try.func5, Try.ntmps5
  go_wp2_with (fail)
  refine (shown_any _).mono ?_
  rintro e w1 ⟨rfl, U1⟩
  go_wp2_with (fail)
  refine (h1.out _ U1).mono ?_
  rintro e w2 ⟨p, rfl, ho, k2⟩
  have U2 := U1.trans k2
  have HO := Lib.hid (Sl.of_lo ho)
  have ho2 := HO.out
  obtain ⟨B, d, rfl, -⟩ := ho2
  generalize hol2 : o.length = l at *
  have HL := Lib.hid hol2
  clear ho k2 hol2
  go_wp2_with (fail)
  refine (h2.out _ _ HO.out).mono ?_
  rintro e w3 ⟨q, rfl, hq, k3⟩
  have U3 := U2.trans k3
  have HO3 := Lib.hid (HO.out.up k3)
  have hs := sameq_any q _ o o w3 (Sl.of_lo hq) HO3.out
  rw [decide_eq_true rfl] at hs
  have HS := Lib.hid hs
  have hq2 := Sl.of_lo hq
  obtain ⟨C, d2, rfl, -⟩ := hq2
  have hd : decide (n < l) = false := decide_eq_false (by omega)
  clear hq hs k3
  go_wp2_with (fail)
  refine HS.out.mono ?_
  rintro e w4 ⟨rfl, m4, rfl⟩
  have U4 := U3.drewN m4
  have HO4 := HO3.out.up ((Up.refl w3).drewN m4)
  generalize World.drewN w3 m4 = w4 at U4 HO4 ⊢
  have HO5 := Lib.hid HO4
  have HX4 := Lib.hid (HX.out.up U4)
  have HU4 := Lib.hid U4
  clear HO HO3 HO4 U3 U2 U1 U4 HS h1 h2 HX
  go_wp2_with (fail)
  go_loopw [5] (fun i wr => ORel w4 n i wr) (fun i _ => n - (intOf i).toNat)
  case atStart => exact ⟨0, Nat.zero_le _, rfl, Up.refl _⟩
  case round =>
    rename World => wb
    obtain ⟨x, hxn, rfl, hU⟩ := hrel
    by_cases hlt : x < n
    · obtain ⟨px, rfl, hcx, hcx2⟩ := (HX4.out.up hU).rd.at_ hlt
      have hin : xs.getD x (0, 0) ∈ xs := getD_mem (0, 0) (by rw [HN.out]; exact hlt)
      have hc1 := HC.out _ hin
      have HOb := Lib.hid (HO5.out.up hU)
      have HU := Lib.hid hU
      generalize xs.getD x (0, 0) = a at hcx hcx2 hc1
      have HC1 := Lib.hid hc1
      obtain ⟨a1, a2⟩ := a
      simp only [] at hcx hcx2
      clear hin hc1 hU
      go_wp2_with (fail)
      go_loopw [6, 7] (fun s k wr => IRel wb o (a1, a2) l s k wr) (fun _ k _ => l - (intOf k).toNat)
      case atStart => exact ⟨0, Nat.zero_le _, rfl, rfl, 0, rfl⟩
      case round =>
        obtain ⟨k, hkl, rfl, rfl, m, rfl⟩ := hrel
        by_cases hk : k < l
        · obtain ⟨po, rfl, hco, hco2⟩ := HOb.out.rd.at_ hk
          have hcs := count_step (o := o) (a1, a2) (k := k) (by rw [HL.out]; exact hk)
          have hbd : (o.take k).count (a1, a2) ≤ k := Nat.le_trans List.count_le_length (List.length_take_le _ _)
          generalize o.getD k (0, 0) = b at hco hco2 hcs
          obtain ⟨b1, b2⟩ := b
          simp only [] at hco hco2
          have HCS := Lib.hid hcs
          generalize (o.take k).count (a1, a2) = t at *
          have he := eq_ent b1 b2 a1 a2
          by_cases hab : (b1, b2) = (a1, a2)
          · have HCS := Lib.hid (HCS.out.trans (by rw [if_pos hab]))
            rw [show bE b1 b2 a1 a2 = true from by rw [bE_eq, decide_eq_true hab]] at he
            clear hcs hab
            go_wp2_with (fail)
            go_quiet (fail)
            go_wp2_with (fail)
            exact ⟨⟨k + 1, by omega, by go_num, by rw [HCS.out]; go_num, m + nq, rfl⟩, by simp [intOf]; omega⟩
          · have HCS := Lib.hid (HCS.out.trans (by rw [if_neg hab]))
            rw [show bE b1 b2 a1 a2 = false from by rw [bE_eq, decide_eq_false hab]] at he
            clear hcs hab
            go_wp2_with (fail)
            go_quiet (fail)
            go_wp2_with (fail)
            exact ⟨⟨k + 1, by omega, by go_num, by rw [HCS.out]; rfl, m + nq, rfl⟩, by simp [intOf]; omega⟩
        · obtain rfl : k = l := by omega
          have e1 : (((o.take k).count (a1, a2) : Nat) : Int) = 1 := by
            rw [List.take_of_length_le (by rw [HL.out]; exact Nat.le_refl _), HC1.out]
            rfl
          have HE1 := Lib.hid e1
          rw [e1]
          clear e1
          go_wp2_with (fail)
          exact ⟨⟨x + 1, by omega, by go_num, HU.out.drewN m⟩, by simp [intOf]; omega⟩
    · obtain rfl : x = n := by omega
      have HU := Lib.hid (HU4.out.trans hU)
      clear hU
      go_wp2
      go_ret
      exact ⟨rfl, HU.out⟩

theorem own : ownKnob Try.prog.godebug = none := by kernel_rfl
set_option maxRecDepth 100000 in
theorem lifted (os : Os) (started : os.Started) (H : Type) (enc : TypeId × Value → H) :
    ReturnsInHanded {} Try.checked os 5 .any (Rows.logOnceSpec.pre6 enc Try.prog Try.f5 Rows.logOnceRow.domain false) (Rows.logOnceSpec.post enc Try.prog Try.f5 false true false false) := by
  refine returnsInHanded_of_change_sized (C := Try.checked) own started (by kernel_rfl) Try.func5
    (ChangeSpec.witness6 (enc := enc) (C := Try.checked) false ⟨#[], #[.slice none 0 0], []⟩ 8 (by kernel_rfl) (by kernel_rfl) (by kernel_rfl) (by kernel_rfl)) ?_
  intro W base args ds gs before hval0 hW hcnd hsz0 _
  have hval : ∀ (j : Nat) t v, Try.f5.params[j]? = some t → args[j]? = some v → Value.okWide Try.prog W .any base t v := hval0
  have hW' := hW
  obtain ⟨p, q, hA0, hV, rfl, hfz, hnd⟩ := hW
  have hA : DataW.TrodAll enc Try.prog W 0 (fun _ => true) true Try.f5.params.toList args.toList ds p := hA0
  rw [Try.params5] at hA hval
  obtain ⟨v0, vs0, d0, ds0, p0, q0, hargs, rfl, rfl, h0, r0⟩ := trodAll_cons hA
  obtain ⟨rfl, rfl, rfl⟩ := trodAll_nil r0
  obtain rfl : args = #[v0] := by cases args; simp_all
  obtain ⟨rfl, rfl⟩ := trodVars_none hV
  have l0 : Light 22 d0 := fun n hn => by
    have := List.all_eq_true.1 hsz0 n (DataW.weights_mem_each (j := 0) (t := 22) (d := d0) (by kernel_rfl) rfl n hn)
    simpa using this
  clear hsz0
  have h0k := h0
  obtain ⟨xs0, s0, u0, b0, y0⟩ := ents_at (hval 0 22 v0 rfl rfl) h0
  clear hA0 hval0
  simp only [List.append_nil, List.nil_append] at hW'
  refine (walk v0 xs0 W s0 u0 (Nat.le_trans (y0 l0) (by decide))).mono fun e W' ⟨he, hg⟩ => ?_
  subst he
  exact ⟨_, rfl, post_below (pa := p0) (pv := []) hW' (fun _ _ _ => (trodAll_cons_mk (shut_bool Try.underlying4 _) trodAll_mk0))
    (fun sp hsp => by
      have t := (trodAll_cons_mk (trod_keeps (sp := sp) (by kernel_rfl) (of_decide_eq_true (by kernel_rfl)) h0k hg (fun x hx => hW'.lt x (by simp [hx])) (fun x hx => hsp x (by simp [hx]))) trodAll_mk0)
      simp only [List.append_nil, List.nil_append] at t
      exact t) (fun _ _ => rfl) (by simp)
    hg (ok_one (by kernel_rfl) rfl (okWide_bool_mk Try.underlying4 _))⟩

set_option maxRecDepth 100000 in
theorem over : Rows.logOnceRow.holds Try.pinned (OpenSpec.ofChange Rows.logOnceSpec) :=
  OpenClaim.holds_of_wide 5 Try.f5 rfl rfl rfl rfl rfl rfl rfl ⟨rfl, rfl, rfl, rfl, rfl⟩ rfl rfl rfl rfl rfl (by kernel_rfl) Try.func5 (by kernel_rfl)
    (of_decide_eq_true (by kernel_rfl)) (by unfold Func.isWrapper; first | (rw [if_pos (by decide +kernel)]; kernel_rfl) | (rw [if_neg (by decide +kernel)]; exact ⟨rfl, rfl⟩))
    (fun os started H enc _ => lifted os started H enc)

theorem proved : Rows.LogOnceSaid :=
  over
#print axioms proved
end Go.Proofs.Ytgofejhjnbnecaa.LLogOnce
