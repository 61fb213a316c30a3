/- The statement LogMany is proved for every input whose reading is of bulk at most 1048576 (its Upto form), from contracts of the functions that it calls; no other condition is added. -/
import Derived.Test.YtgofejhjnbnecaaEn10
import Derived.BigQuiet
namespace Go.Proofs.Ytgofejhjnbnecaa.LLogMany
open Go.Joins Go.ChangeShapes Go.Shelf Go.Maps Go.WideShapes Go.ChangeAt Go.RowKit Go.Deep
set_option linter.unusedVariables false
set_option linter.unusedSimpArgs false

theorem mny_flat : ∀ (L : List (List Ent)) (a : Int), 0 ≤ a → a + L.flatten.length ≤ 1000000000 → mny L a = a + L.flatten.length
  | [], a, _, _ => by simp [mny]
  | r :: L, a, h0, h1 => by
    rw [List.flatten_cons, List.length_append] at h1
    have e : wrap64 (a + r.length) = a + r.length := wrap_id (by unfold I64; omega)
    unfold mny
    rw [e, mny_flat L _ (by omega) (by omega), List.flatten_cons, List.length_append]
    omega
theorem infoR : ∃ i0, Try.prog.info? 22 = some i0 ∧ i0.zero = some (.slice none 0 0) ∧ i0.size = 1 ∧ i0.bytes = 24 := info_parts (show (Try.prog.info? 22).map (fun i => (i.zero, i.size, i.bytes)) = some (some (.slice none 0 0), 1, 24) from by kernel_rfl)
/-- A row of logs of the call's own; the logs are older. -/
def Lg (W w : World) (v : Value) (L : List (List Ent)) : Prop := ∃ us, w.ownsRow W.heap.size 22 1 v L.length us ∧ ∀ (j : Nat) (u : Value) (xs : List Ent), us[j]? = some u → L[j]? = some xs → Sl W u xs
theorem Lg.rw {W w : World} {v : Value} {L : List (List Ent)} (h : Lg W w v L) (k : Up W w) : Rw w v L := by
  obtain ⟨us, ho, hs⟩ := h
  have hul : us.length = L.length := by have := ho.1; omega
  rcases Nat.eq_zero_or_pos L.length with h0 | hp
  · obtain rfl := List.eq_nil_of_length_eq_zero h0
    obtain ⟨-, hc⟩ := ho
    rcases hc with ⟨rfl, _⟩ | ⟨g, cap, cur, rfl, hb, hg, h1, h2, h3, h4⟩
    · exact Rw.nil w
    · exact ⟨_, cap, rfl, Nat.zero_le _, h2, fun q => (by cases q), fun q => absurd q (by simp)⟩
  · obtain ⟨-, hc⟩ := ho
    rcases hc with ⟨rfl, h0⟩ | ⟨g, cap, cur, rfl, hb, hg, h1, h2, h3, h4⟩
    · omega
    · refine ⟨_, cap, rfl, h1, h2, fun q => (by cases q), fun _ => ⟨_, rfl, (Array.getElem?_eq_some_iff.1 hg).1, fun j xs hj => ?_⟩⟩
      have hjl : j < us.length := by
        rw [hul]
        rcases Nat.lt_or_ge j L.length with q | q
        · exact q
        · rw [List.getElem?_eq_none q] at hj; cases hj
      refine ⟨us[j], ?_, (hs j _ xs (List.getElem?_eq_getElem hjl) hj).up k⟩
      rw [add_zero', cell_of_row w g j cur _ (0, 0) hg]
      have hu : us[j]? = some us[j] := List.getElem?_eq_getElem hjl
      generalize us[j] = z at hu ⊢
      rw [← h4, List.getElem?_take, if_pos (by omega)] at hu
      simpa using hu
theorem lg_empty (W w : World) {g : Nat} (h : Blk w g 22 #[]) (hb : W.heap.size ≤ g) : Lg W w (.slice (some ⟨g, 0, none⟩) 0 0) [] :=
  ⟨[], ⟨rfl, .inr ⟨g, 0, #[], rfl, hb, h, Nat.le_refl _, Nat.zero_le _, rfl, rfl⟩⟩, fun j u xs hu => by simp at hu⟩
theorem run_none (A B : Option Addr) (n c d : Nat) (h : n ≤ c) (ty : TypeId) (w : World) : (Builtin.append_ #[26, 26] ty #[.slice A n c, .slice B 0 d]).run Try.prog w = .ok (.slice A n c) w := by
  obtain ⟨i0, hi, hz0, hz1, hz2⟩ := infoR
  cases A <;> cases B <;> simp [Builtin.append_, run_underlying Try.underlying26, sizeOf, typeInfo, hi, Builtin.lenOf, Builtin.firstCells, loadCells, loadCellsFrom, storeCells, h]
theorem run_rows {W w : World} (ty : TypeId) (v : Value) (L M : List (List Ent)) (hv : Lg W w v L) (k : Up W w) (B : Option Addr) (m d : Nat) (hM : Rw W (.slice B m d) M) (hb : L.length + M.length ≤ 1048576) :
    ∃ v' w', (Builtin.append_ #[26, 26] ty #[v, .slice B m d]).run Try.prog w = .ok v' w' ∧ Lg W w' v' (L ++ M) ∧ Up W w' := by
  obtain ⟨i0, hi, hz0, hz1, hz2⟩ := infoR
  obtain ⟨us, ho, hs⟩ := hv
  obtain ⟨B', d', e, hm1, hm2, hB, hr⟩ := hM
  cases e
  by_cases h0 : M = []
  · subst h0
    have hsl : ∃ A n c, v = .slice A n c ∧ n ≤ c := by
      obtain ⟨-, hc⟩ := ho
      rcases hc with ⟨rfl, _⟩ | ⟨g, cap, cur, rfl, hb, hg, h1, h2, h3, h4⟩
      · exact ⟨_, _, _, rfl, Nat.le_refl _⟩
      · exact ⟨_, _, _, rfl, h1⟩
    obtain ⟨A, n, c, rfl, hnc⟩ := hsl
    rw [List.append_nil]
    exact ⟨_, _, run_none A B n c d hnc ty w, ⟨us, ho, hs⟩, k⟩
  · have hp : 0 < M.length := List.length_pos_iff.2 h0
    obtain ⟨p, rfl, hpl, hr⟩ := hr hp
    obtain ⟨U, hU⟩ := choose_lt (α := Value) (n := M.length) (p := fun j u => W.cell? (p.add j) = some u ∧ Sl W u (M.getD j [])) (fun j hj => by
      obtain ⟨u, h1, h2⟩ := hr j M[j] (List.getElem?_eq_getElem hj)
      exact ⟨u, h1, by simpa [List.getD, List.getElem?_eq_getElem hj] using h2⟩)
    have hnl : ((List.range M.length).map U).length = M.length * 1 := by simp
    have hat : ∀ j u, ((List.range M.length).map U)[j]? = some u → j < M.length ∧ u = U j := fun j u hj => by
      have hjl : j < M.length := by
        rcases Nat.lt_or_ge j M.length with q | q
        · exact q
        · rw [List.getElem?_eq_none (by simpa using q)] at hj; cases hj
      rw [List.getElem?_map, List.getElem?_range hjl] at hj
      cases hj
      exact ⟨hjl, rfl⟩
    obtain ⟨g, cap, w', hrun, h2, h3, h4, h5⟩ := run_append_lies (P := Try.prog) w 26 ty W.heap.size 22 i0 _ 1 24 Try.underlying26 hi hz0 hz1 hz2 rfl (by decide) v L.length us ho p M.length d ((List.range M.length).map U) hnl
      (fun j u hj => by obtain ⟨hjl, rfl⟩ := hat j u hj; exact (Below.cell k (by rw [block_of_add]; exact hpl)).trans (hU j hjl).1)
      (fun u hu => by
        obtain ⟨j, hj⟩ := List.getElem?_of_mem hu
        obtain ⟨hjl, rfl⟩ := hat j u hj
        obtain ⟨A, n, c, e⟩ := (hU j hjl).2.slice
        rw [e]
        rfl) hp (by unfold maxLen; omega) (by omega) k.size w.heap.size rfl
    refine ⟨_, w', hrun, ⟨us ++ (List.range M.length).map U, by rw [List.length_append]; exact h2, fun j u xs hu hj => ?_⟩, k.grown h3 (fun q e => (World.ownsRow.lt ho q e).1)⟩
    have hul : us.length = L.length := by have := ho.1; omega
    by_cases hjl : j < L.length
    · rw [List.getElem?_append_left (by omega)] at hu
      rw [List.getElem?_append_left hjl] at hj
      exact hs j u xs hu hj
    · rw [List.getElem?_append_right (by omega)] at hu
      rw [List.getElem?_append_right (by omega)] at hj
      rw [hul] at hu
      obtain ⟨hjm, rfl⟩ := hat _ u hu
      have := (hU _ hjm).2
      rw [show M.getD (j - L.length) [] = xs from by simp only [List.getD, hj, Option.getD_some]] at this
      exact this
theorem wpList_rows {W w : World} {ops : Array Oper} {rest : List Oper} {o : Oper} {a : Act} {Q : Exit → Act → World → Prop} (hw : Region.wanted o (yielded ops a.tmps) = true) (s t : Operand) (ho : o.op = .call { callee := .builtin .append, args := #[s, t], argTypes := #[26, 26] })
    (v : Value) (L M : List (List Ent)) (B : Option Addr) (m d : Nat) (hs : a.eval s = v) (ht : a.eval t = .slice B m d) (hv : Lg W w v L) (k : Up W w) (hM : Rw W (.slice B m d) M) (hb : L.length + M.length ≤ 1048576)
    (h : ∀ v' w', Lg W w' v' (L ++ M) → Up W w' → wpList Try.prog ops Q rest (a.put o.dst v') w') : wpList Try.prog ops Q (o :: rest) a w := by
  obtain ⟨v', w', hr, h1, h2⟩ := run_rows o.type v L M hv k B m d hM hb
  refine wpList_step fun K hK => ?_
  rw [if_pos hw]
  unfold Oper.wp execOp
  simp only [ho, resolve, invoke, builtin, Sem.run_bind, Sem.run_pure, Result.andThen_ok, List.map_toArray, List.map_cons, List.map_nil, hs, ht, hr]
  exact hK _ _ (h v' w' h1 h2)
set_option maxRecDepth 100000 in
set_option maxHeartbeats 4000000 in
theorem walk (u v : Value) (L M : List (List Ent)) (w : World) (hL : Rw w u L) (hM : Rw w v M) (hb : L.flatten.length + L.length + (M.flatten.length + M.length) ≤ 1048576) :
    Calls Try.prog 8 #[u, v] w (fun e w' => e = .returned (.bool true) ∧ Up w w') := by
  have hl := mny_flat L 0 (by omega) (by omega)
  have hm := mny_flat M 0 (by omega) (by omega)
  have hlm := mny_flat (L ++ M) 0 (by omega) (by rw [List.flatten_append, List.length_append]; omega)
  rw [List.flatten_append, List.length_append] at hlm
  have h1 := fun w' (k : Up w w') => many_any u L w' (hL.up k)
  have h2 := fun w' (k : Up w w') => many_any v M w' (hM.up k)
  have h3 := fun p w' (k : Rw w' p (L ++ M)) => many_any p (L ++ M) w' k
  have h4 := fun w' => many_any (.slice none 0 0) [] w' (Rw.nil w')
  rw [hl] at h1
  rw [hm] at h2
  rw [hlm] at h3
  have HL := Lib.hid hL
  have HM := Lib.hid hM
  obtain ⟨A, c, rfl, -⟩ := hL
  obtain ⟨B, d, rfl, -⟩ := hM
  generalize hf12 : L.flatten.length + M.flatten.length = f at *
  generalize L.flatten.length = f1 at *
  generalize M.flatten.length = f2 at *
  have hd : ((f : Int) == (f1 : Int) + (f2 : Int)) = true := beq_iff_eq.2 (by omega)
  rw [Int.zero_add] at h1 h2 h3
  rw [show mny [] 0 = 0 from rfl] at h4
  have H1 := Lib.hid h1
  have H2 := Lib.hid h2
  have H3 := Lib.hid h3
  have H4 := Lib.hid h4
  have hlen : L.length + M.length ≤ 1048576 := by omega
  generalize hn1 : L.length = n1 at *
  generalize hn2 : M.length = n2 at *
  have HN1 := Lib.hid hn1
  have HN2 := Lib.hid hn2
  clear hl hm hlm hf12 h1 h2 h3 h4 hn1 hn2
  go_enter Try.func8, Try.ntmps8
  go_wp2_with (fail)
  refine (shown_any _).mono ?_
  rintro e w1 ⟨rfl, U1⟩
  have HU1 := Lib.hid U1
  clear U1
  go_wp2_with (with_reducible refine halt_at (o := ⟨some 11, _, _, _, _, _⟩) ?_)
  unfold Halt
  refine wpList_rows (W := w) rfl _ _ rfl _ [] L A n1 c rfl rfl (lg_empty w _ (Blk.new w1 _ _) HU1.out.size) (HU1.out.alloc _) HL.out (by rw [HN1.out]; simp; omega) ?_
  intro v1 w2 hv1 hu2
  have HV1 := Lib.hid hv1
  have HU2 := Lib.hid hu2
  clear hv1 hu2
  go_wp2_with (with_reducible refine halt_at (o := ⟨some 13, _, _, _, _, _⟩) ?_)
  unfold Halt
  refine wpList_rows (W := w) rfl _ _ rfl _ L M B n2 d rfl rfl HV1.out HU2.out HM.out (by rw [HN1.out, HN2.out]; omega) ?_
  intro v2 w3 hv2 hu3
  have HV2 := Lib.hid (Lg.rw hv2 hu3)
  have HU3 := Lib.hid hu3
  clear hv2 hu3
  go_wp2_with (fail)
  refine (H3.out _ _ HV2.out).mono ?_
  rintro e w4 ⟨rfl, k4⟩
  have U4 := HU3.out.trans k4
  go_wp2_with (fail)
  refine (H1.out _ U4).mono ?_
  rintro e w5 ⟨rfl, k5⟩
  have U5 := U4.trans k5
  go_wp2_with (fail)
  refine (H2.out _ U5).mono ?_
  rintro e w6 ⟨rfl, k6⟩
  have U6 := U5.trans k6
  go_wp2_with (fail)
  refine (H4.out _).mono ?_
  rintro e w7 ⟨rfl, k7⟩
  have U7 := U6.trans k7
  go_wp2
  go_ret
  exact ⟨rfl, U7⟩

theorem own : ownKnob Try.prog.godebug = none := by kernel_rfl
set_option maxRecDepth 100000 in
theorem contract (H : Type) (enc : TypeId × Value → H) (W : World) (base : Nat) (args : Array Value) (ds gs : List (DataW H)) (before : List MemPlace)
    (hval0 : ∀ (j : Nat) t v, Try.f8.params[j]? = some t → args[j]? = some v → Value.okWide Try.prog W .any base t v)
    (hW : DataW.Whole enc Try.prog Try.f8.params.toList Rows.logManySpec.vars false W args.toList ds gs before) (hk : Rows.uptoSmall H (ds ++ gs) = true) :
    Calls Try.prog 8 args W fun e W' => ∃ v, e = .returned v ∧ Rows.logManySpec.post enc Try.prog Try.f8 false true false false W args v W' := by
  have hval : ∀ (j : Nat) t v, Try.f8.params[j]? = some t → args[j]? = some v → Value.okWide Try.prog W .any base t v := hval0
  have hW' := hW
  obtain ⟨p, q, hA0, hV, rfl, hfz, hnd⟩ := hW
  have hA : DataW.TrodAll enc Try.prog W 0 (fun _ => true) true Try.f8.params.toList args.toList ds p := hA0
  rw [Try.params8] at hA hval
  obtain ⟨v0, vs0, d0, ds0, p0, q0, hargs, rfl, rfl, h0, r0⟩ := trodAll_cons hA
  obtain ⟨v1, vs1, d1, ds1, p1, q1, rfl, rfl, rfl, h1, r1⟩ := trodAll_cons r0
  obtain ⟨rfl, rfl, rfl⟩ := trodAll_nil r1
  obtain rfl : args = #[v0, v1] := by cases args; simp_all
  obtain ⟨rfl, rfl⟩ := trodVars_none hV
  have hbk : Rows.uptoBulkAll [d0, d1] ≤ 1048576 := of_decide_eq_true hk
  simp only [Rows.uptoBulkAll] at hbk
  clear hk
  have h0k := h0
  obtain ⟨xs0, s0, b0⟩ := rows_at (hval 0 26 v0 rfl rfl) h0
  have h1k := h1
  obtain ⟨xs1, s1, b1⟩ := rows_at (hval 1 26 v1 rfl rfl) h1
  clear hA0 hval0
  simp only [List.append_nil, List.nil_append] at hW'
  refine (walk v0 v1 xs0 xs1 W s0 s1 (by omega)).mono fun e W' ⟨he, hg⟩ => ?_
  subst he
  exact ⟨_, rfl, post_below (pa := p0 ++ p1) (pv := []) hW' (fun _ _ _ => (trodAll_cons_mk (shut_bool Try.underlying4 _) trodAll_mk0))
    (fun sp hsp => by
      have t := (trodAll_cons_mk (trod_keeps (sp := sp) (by kernel_rfl) (of_decide_eq_true (by kernel_rfl)) h0k hg (fun x hx => hW'.lt x (by simp [hx])) (fun x hx => hsp x (by simp [hx]))) (trodAll_cons_mk (trod_keeps (sp := sp) (by kernel_rfl) (of_decide_eq_true (by kernel_rfl)) h1k hg (fun x hx => hW'.lt x (by simp [hx])) (fun x hx => hsp x (by simp [hx]))) trodAll_mk0))
      simp only [List.append_nil, List.nil_append] at t
      exact t) (fun _ _ => rfl) (by simp)
    hg (ok_one (by kernel_rfl) rfl (okWide_bool_mk Try.underlying4 _))⟩

set_option maxRecDepth 100000 in
theorem lifted (os : Os) (started : os.Started) (H : Type) (enc : TypeId × Value → H) (F : Stop.Interp) :
    ReturnsInHanded {} Try.checked os 8 .any ((Rows.OpenSpec.upto Rows.logManySpec).pre6 enc Try.prog Try.f8 Rows.logManyUptoRow.domain false) (((Rows.OpenSpec.upto Rows.logManySpec).at F).post enc Try.prog Try.f8 false true false false) := by
  refine returnsInHanded_of_cond (C := Try.checked) (s := Rows.OpenSpec.upto Rows.logManySpec) (k := Rows.uptoSmall) rfl own started (by kernel_rfl) Try.func8
    (OpenSpec.witness (enc := enc) (C := Try.checked) (s := Rows.OpenSpec.upto Rows.logManySpec) (k := Rows.uptoSmall) rfl false ⟨#[], #[.slice none 0 0, .slice none 0 0], []⟩ 8 (by kernel_rfl) (by kernel_rfl) (by kernel_rfl)
      (x := ([.nil, .nil], [], [])) (by kernel_rfl) rfl (by kernel_rfl)) ?_
  intro W base args ds gs before hval hW _ hk _
  exact contract H enc W base args ds gs before hval hW hk

set_option maxRecDepth 100000 in
theorem over : Rows.logManyUptoRow.holds Try.pinned (Rows.OpenSpec.upto Rows.logManySpec) :=
  OpenClaim.holds_of_cond 8 Try.f8 rfl rfl rfl rfl rfl rfl rfl ⟨rfl, rfl, rfl, rfl, rfl⟩ rfl rfl rfl rfl rfl (by kernel_rfl) Try.func8 (by kernel_rfl)
    (of_decide_eq_true (by kernel_rfl)) (by unfold Func.isWrapper; first | (rw [if_pos (by decide +kernel)]; kernel_rfl) | (rw [if_neg (by decide +kernel)]; exact ⟨rfl, rfl⟩))
    (fun os started H enc _ F => lifted os started H enc F)

theorem proved : Rows.LogManyUptoSaid :=
  over
#print axioms proved
end Go.Proofs.Ytgofejhjnbnecaa.LLogMany
