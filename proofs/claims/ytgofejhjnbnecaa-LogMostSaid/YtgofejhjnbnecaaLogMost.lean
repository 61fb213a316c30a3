/- The statement LogMost is proved for every input, from contracts of the functions that it calls; no condition is added. -/
import Derived.Test.YtgofejhjnbnecaaEn10
import Derived.BigQuiet
namespace Go.Proofs.Ytgofejhjnbnecaa.LLogMost
open Go.Joins Go.ChangeShapes Go.Shelf Go.Maps Go.WideShapes Go.ChangeAt Go.RowKit Go.Deep
set_option linter.unusedVariables false
set_option linter.unusedSimpArgs false

theorem quiet9 {P : Program} {f : FuncId} {args : Array Value} {W : World} {n : Nat} {v : Value} (h : Calls P f args (W.drewN n) fun e w' => e = .returned v ∧ ∃ m, w' = (W.drewN n).drewN m) : Calls P f args (W.drewN n) fun e w'' => e = .returned v ∧ ∃ m, w'' = W.drewN m := Calls.quiet_of h
theorem run_cut (A : Option Addr) (n c k : Nat) (hk : k ≤ c) (hA : A = none → c = 0) (w : World) :
    (Instr.sliceAt 22 (.slice A n c) none (some (.int .i64 (k : Int))) none).run Try.prog w = .ok (.slice A k c) w ∧ (Instr.slice 22 (.slice A n c) none (some (.int .i64 (k : Int))) none).run Try.prog w = .ok (.slice A k c) w := by
  obtain ⟨i0, hi0, hz0, hz1, hz2⟩ := info3
  have hel : Try.prog.elem 22 = 25 := by kernel_rfl
  have hu : Try.prog.underlying 22 = some (.slice (Try.prog.elem 22)) := by rw [hel]; exact Try.underlying22
  rw [run_sliceAt_slice (h := hu), and_self, run_slice_h (ht := hu) (h0 := by omega) (h2 := by omega), hel]
  cases A
  · obtain rfl := hA rfl
    obtain rfl : k = 0 := by omega
    simp [sizeOf, typeInfo, hi0, sliced]
  · rename_i p
    have e0 : p.add 0 = p := Addr.add_zero' p
    simp [sizeOf, typeInfo, hi0, sliced, e0]
theorem Sl.cut {w : World} {A : Option Addr} {n c : Nat} {xs : List Ent} (h : Sl w (.slice A n c) xs) {k : Nat} (hk : k ≤ n) : Sl w (.slice A k c) (xs.take k) := by
  obtain ⟨A', c', e, h1, h2, h3, h4, h5⟩ := h
  cases e
  have hl : (xs.take k).length = k := by rw [List.length_take]; omega
  refine ⟨A, c, by rw [hl], by omega, h2, h3, rfl, fun q => ?_⟩
  rw [hl] at q
  obtain ⟨p, e, hr⟩ := h5 (by omega)
  refine ⟨p, e, hr.1, fun j v hv => hr.2 j v ?_⟩
  have hx : xs = xs.take k ++ xs.drop k := (List.take_append_drop k xs).symm
  rw [hx, evs_app, List.getElem?_append_left]
  · exact hv
  · rcases Nat.lt_or_ge j (evs (xs.take k)).length with q2 | q2
    · exact q2
    · rw [List.getElem?_eq_none q2] at hv; cases hv
set_option maxRecDepth 100000 in
set_option maxHeartbeats 4000000 in
theorem walk_no (v : Value) (xs : List Ent) (z : Ent) (most : Int) (w : World) (hx : Sl w v xs) (h : ¬ ((xs.length : Int) < most ∧ xs.length < 64)) :
    Calls Try.prog 7 #[v, ev z, .int .i64 most] w (fun e w' => e = .returned (.bool true) ∧ Up w w') := by
  have h1 := fun w' (k : Up w w') => add_any v xs z most w' (hx.up k)
  rw [show ads xs z most = xs from if_neg h, show ade xs most = 4 from if_neg h] at h1
  have h1 := Lib.hid h1
  have HX := Lib.hid hx
  obtain ⟨A, c, rfl, -⟩ := hx
  generalize xs.length = n at *
  obtain ⟨z1, z2⟩ := z
  by_cases hm : most ≤ n
  case pos =>
    have hd : decide (most ≤ (n : Int)) = true := decide_eq_true hm
    clear h hm
    go_enter Try.func7, Try.ntmps7
    go_wp2_with (fail)
    refine (shown_any _).mono ?_
    rintro e w1 ⟨rfl, k1⟩
    have U1 : Up w w1 := ((Up.refl w).alloc _).trans k1
    have D1 := (Blk.new w 25 #[.int .u64 z1, .int .i64 z2]).up k1
    have D1c := D1.cell
    clear k1
    go_wp2_with (fail)
    refine (h1.out _ U1).mono ?_
    rintro e w2 ⟨p, rfl, hs, k2⟩
    have U2 := U1.trans k2
    have hq := sameq_any p _ xs xs w2 hs (HX.out.up U2)
    rw [decide_eq_true rfl] at hq
    have HQ := Lib.hid hq
    obtain ⟨B, d, rfl, -⟩ := hs
    clear hq k2
    go_wp2_with (fail)
    refine HQ.out.mono ?_
    rintro e w3 ⟨rfl, m, rfl⟩
    have U3 := U2.drewN m
    go_wp2
    go_ret
    exact ⟨rfl, U3⟩
  case neg =>
    have hd : decide (most ≤ (n : Int)) = false := decide_eq_false hm
    have hd2 : decide ((64 : Int) ≤ n) = true := decide_eq_true (by omega)
    clear h hm
    go_enter Try.func7, Try.ntmps7
    go_wp2_with (fail)
    refine (shown_any _).mono ?_
    rintro e w1 ⟨rfl, k1⟩
    have U1 : Up w w1 := ((Up.refl w).alloc _).trans k1
    have D1 := (Blk.new w 25 #[.int .u64 z1, .int .i64 z2]).up k1
    have D1c := D1.cell
    clear k1
    go_wp2_with (fail)
    refine (h1.out _ U1).mono ?_
    rintro e w2 ⟨p, rfl, hs, k2⟩
    have U2 := U1.trans k2
    have hq := sameq_any p _ xs xs w2 hs (HX.out.up U2)
    rw [decide_eq_true rfl] at hq
    have HQ := Lib.hid hq
    obtain ⟨B, d, rfl, -⟩ := hs
    clear hq k2
    go_wp2_with (fail)
    refine HQ.out.mono ?_
    rintro e w3 ⟨rfl, m, rfl⟩
    have U3 := U2.drewN m
    go_wp2
    go_ret
    exact ⟨rfl, U3⟩
set_option maxRecDepth 100000 in
set_option maxHeartbeats 4000000 in
theorem walk_ok (v : Value) (xs : List Ent) (z : Ent) (most : Int) (w : World) (hx : Sl w v xs) (h : (xs.length : Int) < most ∧ xs.length < 64) :
    Calls Try.prog 7 #[v, ev z, .int .i64 most] w (fun e w' => e = .returned (.bool true) ∧ Up w w') := by
  have h1 := fun w' (k : Up w w') => add_any v xs z most w' (hx.up k)
  rw [show ads xs z most = xs ++ [z] from if_pos h, show ade xs most = 0 from if_pos h] at h1
  have h1 := Lib.hid h1
  have HX := Lib.hid hx
  have hlen : (xs ++ [z]).length = xs.length + 1 := by simp
  have hlast : (xs ++ [z]).getD xs.length (0, 0) = z := by simp [List.getD]
  have htk : (xs ++ [z]).take xs.length = xs := by simp
  obtain ⟨A, c, rfl, -⟩ := hx
  generalize hn : xs.length = n at *
  obtain ⟨z1, z2⟩ := z
  obtain ⟨l, hl⟩ : ∃ l, (xs ++ [(z1, z2)]).length = l := ⟨_, rfl⟩
  rw [hl] at hlen
  have HL := Lib.hid hl
  have HLast := Lib.hid hlast
  have HTk := Lib.hid htk
  have hd1 : decide ((l : Int) ≤ most) = true := decide_eq_true (by omega)
  have hd2 : decide ((l : Int) ≤ 64) = true := decide_eq_true (by omega)
  have hd3 : ((l : Int) == (n : Int) + 1) = true := beq_iff_eq.2 (by omega)
  have e1 : IntKind.i64.wrap ((n : Int) + 1) = (n : Int) + 1 := by rw [IntKind.wrap_i64]; omega
  have e2 : IntKind.i64.wrap ((l : Int) - 1) = (l : Int) - 1 := by rw [IntKind.wrap_i64]; omega
  have e3 : ((l : Int) - 1).toNat = n := by omega
  have e4 : (0 : Int) ≤ (l : Int) - 1 := by omega
  have e5 : (l : Int) - 1 < (l : Int) := by omega
  have HLN := Lib.hid hlen
  clear hl hlast htk h hn hlen
  go_enter Try.func7, Try.ntmps7
  go_wp2_with (fail)
  refine (shown_any _).mono ?_
  rintro e w1 ⟨rfl, k1⟩
  have U1 : Up w w1 := ((Up.refl w).alloc _).trans k1
  have D1 := (Blk.new w 25 #[.int .u64 z1, .int .i64 z2]).up k1
  have D1c := D1.cell
  clear k1
  go_wp2_with (fail)
  refine (h1.out _ U1).mono ?_
  rintro e w2 ⟨p, rfl, hs, k2⟩
  have U2 := U1.trans k2
  have D2 := D1.up k2
  have D2c := D2.cell
  have hs0 := Lib.hid hs
  obtain ⟨B, d, rfl, hld, hdm, hB, hr⟩ := hs
  rw [HL.out] at hs0 hld hr ⊢
  obtain ⟨pB, rfl, hc1, hc2⟩ := hr.at_ (x := n) (by have := HLN.out; omega)
  rw [HLast.out] at hc1 hc2
  simp only [] at hc1 hc2
  have hsc := Sl.cut hs0.out (k := n) (by have := HLN.out; omega)
  rw [HTk.out] at hsc
  have hq := fun m => sameq_any _ _ xs xs (w2.drewN m) (hsc.up ((Up.refl w2).drewN m)) (HX.out.up (U2.drewN m))
  clear hsc
  simp only [decide_true] at hq
  have HQ := Lib.hid hq
  have hcut := fun w' => run_cut (some pB) l d n (by have := HLN.out; omega) (fun q => by cases q) w'
  obtain ⟨hcut1, hcut2⟩ : (∀ w', _) ∧ (∀ w', _) := ⟨fun w' => (hcut w').1, fun w' => (hcut w').2⟩
  have he := fun w' => eq_ent z1 z2 z1 z2 w'
  rw [show bE z1 z2 z1 z2 = true from by rw [bE_eq, decide_eq_true rfl]] at he
  have HU2 := Lib.hid U2
  unfold maxLen at hdm
  clear hq hcut hr D1 D1c k2 hB U1 U2
  go_wp2_with (fail)
  go_quiet ((go_at_call 17; exact quiet9 (HQ.out _)))
  go_wp2
  go_ret
  exact ⟨rfl, HU2.out.drewN nq⟩
theorem walk (v : Value) (xs : List Ent) (z : Ent) (most : Int) (w : World) (hx : Sl w v xs) :
    Calls Try.prog 7 #[v, ev z, .int .i64 most] w (fun e w' => e = .returned (.bool true) ∧ Up w w') := by
  by_cases h : (xs.length : Int) < most ∧ xs.length < 64
  · exact walk_ok v xs z most w hx h
  · exact walk_no v xs z most w hx h

theorem own : ownKnob Try.prog.godebug = none := by kernel_rfl
set_option maxRecDepth 100000 in
theorem lifted (os : Os) (started : os.Started) (H : Type) (enc : TypeId × Value → H) :
    ReturnsInHanded {} Try.checked os 7 .any (Rows.logMostSpec.pre6 enc Try.prog Try.f7 Rows.logMostRow.domain false) (Rows.logMostSpec.post enc Try.prog Try.f7 false true false false) := by
  refine returnsInHanded_of_change (C := Try.checked) own started (by kernel_rfl) Try.func7
    (ChangeSpec.witness6 (enc := enc) (C := Try.checked) false ⟨#[], #[.slice none 0 0, .agg #[.int .u64 0, .int .i64 0], .int .i64 0], []⟩ 8 (by kernel_rfl) (by kernel_rfl) (by kernel_rfl) (by kernel_rfl)) ?_
  intro W base args ds gs before hval0 hW hcnd _
  have hval : ∀ (j : Nat) t v, Try.f7.params[j]? = some t → args[j]? = some v → Value.okWide Try.prog W .any base t v := hval0
  have hW' := hW
  obtain ⟨p, q, hA0, hV, rfl, hfz, hnd⟩ := hW
  have hA : DataW.TrodAll enc Try.prog W 0 (fun _ => true) true Try.f7.params.toList args.toList ds p := hA0
  rw [Try.params7] at hA hval
  obtain ⟨v0, vs0, d0, ds0, p0, q0, hargs, rfl, rfl, h0, r0⟩ := trodAll_cons hA
  obtain ⟨v1, vs1, d1, ds1, p1, q1, rfl, rfl, rfl, h1, r1⟩ := trodAll_cons r0
  obtain ⟨v2, vs2, d2, ds2, p2, q2, rfl, rfl, rfl, h2, r2⟩ := trodAll_cons r1
  obtain ⟨rfl, rfl, rfl⟩ := trodAll_nil r2
  obtain rfl : args = #[v0, v1, v2] := by cases args; simp_all
  obtain ⟨rfl, rfl⟩ := trodVars_none hV
  have h0k := h0
  obtain ⟨xs0, s0, u0, b0, y0⟩ := ents_at (hval 0 22 v0 rfl rfl) h0
  have h1k := h1
  obtain ⟨z1, rfl, u1⟩ := ent_at (hval 1 25 v1 rfl rfl) h1
  obtain ⟨a2, rfl, rfl, rfl, w2⟩ := open_int Try.underlying3 (hval 2 3 v2 rfl rfl) h2
  clear hA0 hval0
  simp only [List.append_nil, List.nil_append] at hW'
  refine (walk v0 xs0 z1 a2 W s0).mono fun e W' ⟨he, hg⟩ => ?_
  subst he
  exact ⟨_, rfl, post_below (pa := p0 ++ p1) (pv := []) hW' (fun _ _ _ => (trodAll_cons_mk (shut_bool Try.underlying4 _) trodAll_mk0))
    (fun sp hsp => by
      have t := (trodAll_cons_mk (trod_keeps (sp := sp) (by kernel_rfl) (of_decide_eq_true (by kernel_rfl)) h0k hg (fun x hx => hW'.lt x (by simp [hx])) (fun x hx => hsp x (by simp [hx]))) (trodAll_cons_mk (trod_keeps (sp := sp) (by kernel_rfl) (of_decide_eq_true (by kernel_rfl)) h1k hg (fun x hx => hW'.lt x (by simp [hx])) (fun x hx => hsp x (by simp [hx]))) (trodAll_cons_mk (shut_int Try.underlying3 w2) trodAll_mk0)))
      simp only [List.append_nil, List.nil_append] at t
      exact t) (fun _ _ => rfl) (by simp)
    hg (ok_one (by kernel_rfl) rfl (okWide_bool_mk Try.underlying4 _))⟩

set_option maxRecDepth 100000 in
theorem over : Rows.logMostRow.holds Try.pinned (OpenSpec.ofChange Rows.logMostSpec) :=
  OpenClaim.holds_of_wide 7 Try.f7 rfl rfl rfl rfl rfl rfl rfl ⟨rfl, rfl, rfl, rfl, rfl⟩ rfl rfl rfl rfl rfl (by kernel_rfl) Try.func7 (by kernel_rfl)
    (of_decide_eq_true (by kernel_rfl)) (by unfold Func.isWrapper; first | (rw [if_pos (by decide +kernel)]; kernel_rfl) | (rw [if_neg (by decide +kernel)]; exact ⟨rfl, rfl⟩))
    (fun os started H enc _ => lifted os started H enc)

theorem proved : Rows.LogMostSaid :=
  over
#print axioms proved
end Go.Proofs.Ytgofejhjnbnecaa.LLogMost
