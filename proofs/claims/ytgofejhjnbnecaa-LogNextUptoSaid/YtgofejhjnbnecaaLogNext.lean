/- The statement LogNext is proved for every input whose reading is of bulk at most 1048576 (its Upto form), from contracts of the functions that it calls; no other condition is added. -/
import Derived.Test.YtgofejhjnbnecaaEn10
import Derived.BigQuiet
namespace Go.Proofs.Ytgofejhjnbnecaa.LLogNext
open Go.Joins Go.ChangeShapes Go.Shelf Go.Maps Go.WideShapes Go.ChangeAt Go.RowKit Go.Deep
set_option linter.unusedVariables false
set_option linter.unusedSimpArgs false

theorem mny_flat : ∀ (L : List (List Ent)) (a : Int), 0 ≤ a → a + L.flatten.length ≤ 1000000000 → mny L a = a + L.flatten.length
  | [], a, _, _ => by simp [mny]
  | r :: L, a, h0, h1 => by
    rw [List.flatten_cons, List.length_append] at h1
    have e : wrap64 (a + r.length) = a + r.length := wrap_id (by unfold I64; omega)
    unfold mny
    rw [e, mny_flat L _ (by omega) (by omega), List.flatten_cons, List.length_append]
    omega
theorem flat_none {L : List (List Ent)} (h : ∀ j, j < L.length → L.getD j [] = []) : L.flatten = [] := by
  rw [List.flatten_eq_nil_iff]
  intro l hl
  obtain ⟨i, hi, rfl⟩ := List.getElem_of_mem hl
  have := h i hi
  simpa [List.getD, List.getElem?_eq_getElem hi] using this
theorem flat_some {L : List (List Ent)} {j : Nat} (h : j < L.length) (hn : L.getD j [] ≠ []) : 0 < L.flatten.length := by
  have hm : L.getD j [] ∈ L := getD_mem [] h
  rcases Nat.eq_zero_or_pos L.flatten.length with q | q
  · exact absurd (List.flatten_eq_nil_iff.1 (List.eq_nil_of_length_eq_zero q) _ hm) hn
  · exact q
theorem fdn_ne {L : List (List Ent)} {i : Nat} (h : fdn L i < L.length) : L.getD (fdn L i) [] ≠ [] := by
  intro e
  have hi : i ≤ fdn L i := fdn_ge L i
  have hf : (L.drop i).findIdx (fun r => !r.isEmpty) < (L.drop i).length := by
    rw [List.length_drop]
    unfold fdn at h
    omega
  have hx : L.getD (fdn L i) [] = (L.drop i)[(L.drop i).findIdx (fun r => !r.isEmpty)]'hf := by
    rw [List.getElem_drop]
    simp only [List.getD, List.getElem?_eq_getElem h, Option.getD_some]
    rfl
  have t : (!(L.getD (fdn L i) []).isEmpty) = true := by rw [hx]; exact List.findIdx_getElem (w := hf)
  rw [e] at t
  cases t
theorem run_cutR (A : Option Addr) (n c k : Nat) (hk : k ≤ c) (hA : A = none → c = 0) (w : World) :
    (Instr.sliceAt 26 (.slice A n c) none (some (.int .i64 (k : Int))) none).run Try.prog w = .ok (.slice A k c) w ∧ (Instr.slice 26 (.slice A n c) none (some (.int .i64 (k : Int))) none).run Try.prog w = .ok (.slice A k c) w := by
  obtain ⟨i0, hi0, hz0, hz1, hz2⟩ := info_parts (show (Try.prog.info? 22).map (fun i => (i.zero, i.size, i.bytes)) = some (some (.slice none 0 0), 1, 24) from by kernel_rfl)
  have hel : Try.prog.elem 26 = 22 := by kernel_rfl
  have hu : Try.prog.underlying 26 = some (.slice (Try.prog.elem 26)) := by rw [hel]; exact Try.underlying26
  rw [run_sliceAt_slice (h := hu), and_self, run_slice_h (ht := hu) (h0 := by omega) (h2 := by omega), hel]
  cases A
  · obtain rfl := hA rfl
    obtain rfl : k = 0 := by omega
    simp [sizeOf, typeInfo, hi0, sliced]
  · rename_i p
    have e0 : p.add 0 = p := Addr.add_zero' p
    simp [sizeOf, typeInfo, hi0, sliced, e0]
theorem Rw.cut {w : World} {A : Option Addr} {n c : Nat} {L : List (List Ent)} (h : Rw w (.slice A n c) L) {k : Nat} (hk : k ≤ n) : Rw w (.slice A k c) (L.take k) := by
  obtain ⟨A', c', e, h1, h2, h3, h4⟩ := h
  cases e
  have hl : (L.take k).length = k := by rw [List.length_take]; omega
  refine ⟨A, c, by rw [hl], by omega, h2, h3, fun q => ?_⟩
  rw [hl] at q
  obtain ⟨p, e, hp, hr⟩ := h4 (by omega)
  exact ⟨p, e, hp, fun j xs hj => hr j xs (by
    rw [List.getElem?_take] at hj
    split at hj
    · exact hj
    · cases hj)⟩
set_option maxRecDepth 100000 in
set_option maxHeartbeats 4000000 in
theorem walk_no (v : Value) (L : List (List Ent)) (w : World) (hL : Rw w v L) (hb : L.flatten.length ≤ 1048576) (h : ¬ fdn L 0 < L.length) :
    Calls Try.prog 6 #[v] w (fun e w' => e = .returned (.bool true) ∧ Up w w') := by
  have hm0 : mny L 0 = 0 := by
    rw [mny_flat L 0 (by omega) (by omega), flat_none (fun j hj => fdn_empty (i := 0) (Nat.zero_le _) (by omega))]
    rfl
  have h1 := fun w' (k : Up w w') => next_any v L w' (hL.up k)
  have h2 := fun w' (k : Up w w') => many_any v L w' (hL.up k)
  rw [show fdo L 0 = .tuple #[.int .i64 0, .bool false] from by unfold fdo; rw [if_neg h, decide_eq_false h]] at h1
  rw [hm0] at h2
  replace h1 := Lib.hid h1
  replace h2 := Lib.hid h2
  obtain ⟨A, c, rfl, -⟩ := hL
  generalize L.length = n at *
  clear h hb hm0
  go_enter Try.func6, Try.ntmps6
  go_wp2_with (fail)
  refine (shown_any _).mono ?_
  rintro e w1 ⟨rfl, U1⟩
  go_wp2_with (fail)
  refine (h1.out _ U1).mono ?_
  rintro e w2 ⟨rfl, k2⟩
  have U2 := U1.trans k2
  go_wp2_with (fail)
  refine (h2.out _ U2).mono ?_
  rintro e w3 ⟨rfl, k3⟩
  have U3 := U2.trans k3
  go_wp2
  go_ret
  exact ⟨rfl, U3⟩
set_option maxRecDepth 100000 in
set_option maxHeartbeats 4000000 in
theorem walk_is (v : Value) (L : List (List Ent)) (w : World) (hL : Rw w v L) (hb : L.flatten.length ≤ 1048576) (h : fdn L 0 < L.length) :
    Calls Try.prog 6 #[v] w (fun e w' => e = .returned (.bool true) ∧ Up w w') := by
  have hne := fdn_ne h
  have hpos := flat_some h hne
  have hm0 : mny L 0 = (L.flatten.length : Int) := by
    rw [mny_flat L 0 (by omega) (by omega)]
    omega
  have h1 := fun w' (k : Up w w') => next_any v L w' (hL.up k)
  have h2 := fun w' (k : Up w w') => many_any v L w' (hL.up k)
  rw [show fdo L 0 = .tuple #[.int .i64 (fdn L 0 : Nat), .bool true] from by unfold fdo; rw [if_pos h, decide_eq_true h]] at h1
  rw [hm0] at h2
  have hz : mny (L.take (fdn L 0)) 0 = 0 := by
    have hf : (L.take (fdn L 0)).flatten = [] := flat_none (fun j hj => by
      rw [List.length_take] at hj
      have e := fdn_empty (L := L) (i := 0) (j := j) (Nat.zero_le _) (by omega)
      simp only [List.getD] at e ⊢
      rw [List.getElem?_take_of_lt (by omega)]
      exact e)
    rw [mny_flat _ 0 (by omega) (by rw [hf]; simp), hf]
    rfl
  have hl : 0 < (L.getD (fdn L 0) []).length := List.length_pos_iff.2 hne
  have HL := Lib.hid hL
  have hm := hL.max
  obtain ⟨A, c, rfl, hc, -, hA, -⟩ := hL
  generalize fdn L 0 = j at *
  generalize hK : L.getD j [] = K at *
  have HK := Lib.hid hK
  have h3 := fun A n c w' (k : Rw w' (.slice A n c) (L.take j)) => many_any _ _ w' k
  rw [hz] at h3
  replace h1 := Lib.hid h1
  replace h2 := Lib.hid h2
  replace h3 := Lib.hid h3
  have hcut := fun w' => run_cutR A L.length c j (by omega) hA w'
  generalize hn : L.length = n at *
  generalize L.flatten.length = f at *
  obtain ⟨hcut1, hcut2⟩ : (∀ w', _) ∧ (∀ w', _) := ⟨fun w' => (hcut w').1, fun w' => (hcut w').2⟩
  have hd : decide ((0 : Int) < (f : Int)) = true := decide_eq_true (by omega)
  have hd2 : ((K.length : Int) == 0) = false := beq_eq_false_iff_ne.2 (by omega)
  unfold maxLen at hm
  clear hcut hne hm0 hz hn hA hK hb
  go_enter Try.func6, Try.ntmps6
  go_wp2_with (fail)
  refine (shown_any _).mono ?_
  rintro e w1 ⟨rfl, U1⟩
  go_wp2_with (fail)
  refine (h1.out _ U1).mono ?_
  rintro e w2 ⟨rfl, k2⟩
  have U2 := U1.trans k2
  go_wp2_with (fail)
  refine (h2.out _ U2).mono ?_
  rintro e w3 ⟨rfl, k3⟩
  have U3 := U2.trans k3
  obtain ⟨p, u, rfl, hcu, hsu⟩ := (HL.out.up U3).at_ h
  rw [HK.out] at hsu
  obtain ⟨Au, cu, rfl, -⟩ := hsu
  have h4 := Lib.hid (h3.out _ _ _ w3 (Rw.cut (HL.out.up U3) (k := j) (by omega)))
  generalize K.length = kl at *
  clear k2 k3 U1 U2
  go_wp2_with (fail)
  refine h4.out.mono ?_
  rintro e w4 ⟨rfl, k4⟩
  have U4 := U3.trans k4
  go_wp2
  go_ret
  exact ⟨rfl, U4⟩
theorem walk (v : Value) (L : List (List Ent)) (w : World) (hL : Rw w v L) (hb : L.flatten.length ≤ 1048576) :
    Calls Try.prog 6 #[v] w (fun e w' => e = .returned (.bool true) ∧ Up w w') := by
  by_cases h : fdn L 0 < L.length
  · exact walk_is v L w hL hb h
  · exact walk_no v L w hL hb h

theorem own : ownKnob Try.prog.godebug = none := by kernel_rfl
set_option maxRecDepth 100000 in
theorem contract (H : Type) (enc : TypeId × Value → H) (W : World) (base : Nat) (args : Array Value) (ds gs : List (DataW H)) (before : List MemPlace)
    (hval0 : ∀ (j : Nat) t v, Try.f6.params[j]? = some t → args[j]? = some v → Value.okWide Try.prog W .any base t v)
    (hW : DataW.Whole enc Try.prog Try.f6.params.toList Rows.logNextSpec.vars false W args.toList ds gs before) (hk : Rows.uptoSmall H (ds ++ gs) = true) :
    Calls Try.prog 6 args W fun e W' => ∃ v, e = .returned v ∧ Rows.logNextSpec.post enc Try.prog Try.f6 false true false false W args v W' := by
  have hval : ∀ (j : Nat) t v, Try.f6.params[j]? = some t → args[j]? = some v → Value.okWide Try.prog W .any base t v := hval0
  have hW' := hW
  obtain ⟨p, q, hA0, hV, rfl, hfz, hnd⟩ := hW
  have hA : DataW.TrodAll enc Try.prog W 0 (fun _ => true) true Try.f6.params.toList args.toList ds p := hA0
  rw [Try.params6] at hA hval
  obtain ⟨v0, vs0, d0, ds0, p0, q0, hargs, rfl, rfl, h0, r0⟩ := trodAll_cons hA
  obtain ⟨rfl, rfl, rfl⟩ := trodAll_nil r0
  obtain rfl : args = #[v0] := by cases args; simp_all
  obtain ⟨rfl, rfl⟩ := trodVars_none hV
  have hbk : Rows.uptoBulkAll [d0] ≤ 1048576 := of_decide_eq_true hk
  simp only [Rows.uptoBulkAll] at hbk
  clear hk
  have h0k := h0
  obtain ⟨xs0, s0, b0⟩ := rows_at (hval 0 26 v0 rfl rfl) h0
  clear hA0 hval0
  simp only [List.append_nil, List.nil_append] at hW'
  refine (walk v0 xs0 W s0 (by omega)).mono fun e W' ⟨he, hg⟩ => ?_
  subst he
  exact ⟨_, rfl, post_below (pa := p0) (pv := []) hW' (fun _ _ _ => (trodAll_cons_mk (shut_bool Try.underlying4 _) trodAll_mk0))
    (fun sp hsp => by
      have t := (trodAll_cons_mk (trod_keeps (sp := sp) (by kernel_rfl) (of_decide_eq_true (by kernel_rfl)) h0k hg (fun x hx => hW'.lt x (by simp [hx])) (fun x hx => hsp x (by simp [hx]))) trodAll_mk0)
      simp only [List.append_nil, List.nil_append] at t
      exact t) (fun _ _ => rfl) (by simp)
    hg (ok_one (by kernel_rfl) rfl (okWide_bool_mk Try.underlying4 _))⟩

set_option maxRecDepth 100000 in
theorem lifted (os : Os) (started : os.Started) (H : Type) (enc : TypeId × Value → H) (F : Stop.Interp) :
    ReturnsInHanded {} Try.checked os 6 .any ((Rows.OpenSpec.upto Rows.logNextSpec).pre6 enc Try.prog Try.f6 Rows.logNextUptoRow.domain false) (((Rows.OpenSpec.upto Rows.logNextSpec).at F).post enc Try.prog Try.f6 false true false false) := by
  refine returnsInHanded_of_cond (C := Try.checked) (s := Rows.OpenSpec.upto Rows.logNextSpec) (k := Rows.uptoSmall) rfl own started (by kernel_rfl) Try.func6
    (OpenSpec.witness (enc := enc) (C := Try.checked) (s := Rows.OpenSpec.upto Rows.logNextSpec) (k := Rows.uptoSmall) rfl false ⟨#[], #[.slice none 0 0], []⟩ 8 (by kernel_rfl) (by kernel_rfl) (by kernel_rfl)
      (x := ([.nil], [], [])) (by kernel_rfl) rfl (by kernel_rfl)) ?_
  intro W base args ds gs before hval hW _ hk _
  exact contract H enc W base args ds gs before hval hW hk

set_option maxRecDepth 100000 in
theorem over : Rows.logNextUptoRow.holds Try.pinned (Rows.OpenSpec.upto Rows.logNextSpec) :=
  OpenClaim.holds_of_cond 6 Try.f6 rfl rfl rfl rfl rfl rfl rfl ⟨rfl, rfl, rfl, rfl, rfl⟩ rfl rfl rfl rfl rfl (by kernel_rfl) Try.func6 (by kernel_rfl)
    (of_decide_eq_true (by kernel_rfl)) (by unfold Func.isWrapper; first | (rw [if_pos (by decide +kernel)]; kernel_rfl) | (rw [if_neg (by decide +kernel)]; exact ⟨rfl, rfl⟩))
    (fun os started H enc _ F => lifted os started H enc F)

theorem proved : Rows.LogNextUptoSaid :=
  over
#print axioms proved
end Go.Proofs.Ytgofejhjnbnecaa.LLogNext
