/- The statement StackAll is proved for every input whose reading is of bulk at most 1048576 (its Upto form), from contracts of the functions that it calls; no other condition is added. -/
import Derived.Test.YtpbbbgcafphplaaSk10
import Derived.BigQuiet
namespace Go.Proofs.Ytpbbbgcafphplaa.LStackAll
open Go.Joins Go.ChangeShapes Go.Shelf Go.Maps Go.WideShapes Go.ChangeAt Go.RowKit Go.Deep
set_option linter.unusedVariables false
set_option linter.unusedSimpArgs false

theorem run_cut (A : Option Addr) (n c k : Nat) (hk : k ≤ c) (hA : A = none → c = 0) (w : World) :
    (Instr.sliceAt 22 (.slice A n c) none (some (.int .i64 (k : Int))) none).run Try.prog w = .ok (.slice A k c) w ∧ (Instr.slice 22 (.slice A n c) none (some (.int .i64 (k : Int))) none).run Try.prog w = .ok (.slice A k c) w := by
  obtain ⟨i0, hi0, hz0, hz1, hz2⟩ := info_parts info_u64
  have hel : Try.prog.elem 22 = 23 := by kernel_rfl
  have hu : Try.prog.underlying 22 = some (.slice (Try.prog.elem 22)) := by rw [hel]; exact Try.underlying22
  rw [run_sliceAt_slice (h := hu), and_self, run_slice_h (ht := hu) (h0 := by omega) (h2 := by omega), hel]
  cases A
  · obtain rfl := hA rfl
    obtain rfl : k = 0 := by omega
    simp [sizeOf, typeInfo, hi0, sliced]
  · rename_i p
    have e0 : p.add 0 = p := Addr.add_zero' p
    simp [sizeOf, typeInfo, hi0, sliced, e0]
theorem quiet9 {P : Program} {f : FuncId} {args : Array Value} {W : World} {n : Nat} {v : Value} (h : Calls P f args (W.drewN n) fun e w' => e = .returned v ∧ W.drewN n = w') : Calls P f args (W.drewN n) fun e w'' => e = .returned v ∧ ∃ m, w'' = W.drewN m :=
  h.mono (fun e w' q => ⟨q.1, n, q.2.symm⟩)
theorem rhas_any' (v : Value) (xs : List Int) (a : Int) (w : World) (hx : Sl w v xs) : Calls Try.prog 26 #[v, .int .u64 a] w fun e w' => e = .returned (.bool (decide (a ∈ xs))) ∧ w = w' := by
  have hm := hx.max
  obtain ⟨A, c, rfl, -, -, -, h⟩ := hx
  exact rhas_any A _ c xs a w h hm
theorem unq_ind {P : List Int → List Int → Prop} (h0 : P [] []) (h1 : ∀ l a, a ∈ 0 :: unq l → P l (unq l) → P (l ++ [a]) (unq l)) (h2 : ∀ l a, a ∉ 0 :: unq l → P l (unq l) → P (l ++ [a]) (unq l ++ [a])) (l : List Int) : P l (unq l) := by
  obtain ⟨r, rfl⟩ : ∃ r : List Int, l = r.reverse := ⟨l.reverse, by simp⟩
  induction r with
  | nil => exact h0
  | cons a r ih =>
    rw [List.reverse_cons, unq_snoc]
    split
    · exact h1 _ _ (by assumption) ih
    · exact h2 _ _ (by assumption) ih
theorem unq_in (l : List Int) : ∀ a ∈ unq l, a ≠ 0 ∧ a ∈ l := by
  refine unq_ind (P := fun l o => ∀ a ∈ o, a ≠ 0 ∧ a ∈ l) (fun a h => by cases h) (fun l a ha ih b hb => ⟨(ih b hb).1, List.mem_append_left _ (ih b hb).2⟩) (fun l a ha ih b hb => ?_) l
  rcases List.mem_append.1 hb with h | h
  · exact ⟨(ih b h).1, List.mem_append_left _ (ih b h).2⟩
  · rw [List.mem_singleton] at h
    subst h
    exact ⟨fun e => ha (by rw [e]; exact List.mem_cons_self), List.mem_append_right _ (List.mem_singleton.2 rfl)⟩
theorem unq_all (l : List Int) : ∀ a ∈ l, a ≠ 0 → a ∈ unq l := by
  refine unq_ind (P := fun l o => ∀ a ∈ l, a ≠ 0 → a ∈ o) (fun a h => by cases h) (fun l a ha ih b hb h0 => ?_) (fun l a ha ih b hb h0 => ?_) l
  · rcases List.mem_append.1 hb with h | h
    · exact ih b h h0
    · rw [List.mem_singleton] at h
      subst h
      rcases List.mem_cons.1 ha with e | e
      · exact absurd e h0
      · exact e
  · rcases List.mem_append.1 hb with h | h
    · exact List.mem_append_left _ (ih b h h0)
    · exact List.mem_append_right _ h
theorem unq_nodup (l : List Int) : (unq l).Nodup :=
  unq_ind (P := fun l o => o.Nodup) List.nodup_nil (fun l a ha ih => ih) (fun l a ha ih => nodup_snoc ih (fun q => ha (List.mem_cons_of_mem _ q))) l
theorem nodup_take {l : List Int} (h : l.Nodup) {x : Nat} (hx : x < l.length) : l.getD x 0 ∉ l.take x := fun q => by
  have h2 : (l.take (x + 1)).Nodup := h.sublist (List.take_sublist _ _)
  rw [take_one 0 hx, List.nodup_append] at h2
  exact h2.2.2 _ q _ (List.mem_singleton.2 rfl) rfl
theorem in_rows {L : List (List Int)} {b : Int} (h : b ∈ L.flatten) : ∃ j, j < L.length ∧ b ∈ L.getD j [] := by
  obtain ⟨xs, h1, h2⟩ := List.mem_flatten.1 h
  obtain ⟨j, hj, rfl⟩ := List.getElem_of_mem h1
  exact ⟨j, hj, by simpa [List.getD, List.getElem?_eq_getElem hj] using h2⟩
theorem of_rows {L : List (List Int)} {i k : Nat} (h : i < L.length) (h2 : k < (L.getD i []).length) : (L.getD i []).getD k 0 ∈ L.flatten :=
  List.mem_flatten.2 ⟨_, getD_mem [] h, getD_mem 0 h2⟩
def ORel (w : World) (m : Nat) (i : Value) (wr : World) : Prop := ∃ x : Nat, x ≤ m ∧ i = .int .i64 x ∧ Up w wr
def IRel (w : World) (b : Int) (L : List (List Int)) (m : Nat) (u9 u10 : Value) (wr : World) : Prop := ∃ (k : Nat) (q : Bool), k ≤ m ∧ u9 = .bool q ∧ u10 = .int .i64 k ∧ (q = false → ∀ j, j < k → b ∉ L.getD j []) ∧ Up w wr
theorem in_step {b : Int} {L : List (List Int)} {q : Bool} (k : Nat) (h : q = false → ∀ j, j < k → b ∉ L.getD j []) (r : Bool) (hr : r = decide (b ∈ L.getD k [])) (hh : (q || r) = false) : ∀ j, j < k + 1 → b ∉ L.getD j [] := by
  rw [Bool.or_eq_false_iff] at hh
  refine fun j hj => ?_
  by_cases e : j = k
  · subst e
    have := hh.2
    rw [hr] at this
    exact of_decide_eq_false this
  · exact h hh.1 j (by omega)
set_option maxRecDepth 100000 in
set_option maxHeartbeats 4000000 in
theorem walk (v : Value) (L : List (List Int)) (i0 k0 : Int) (w : World) (hL : Rw w v L) (hu : ∀ xs ∈ L, ∀ x ∈ xs, U64 x) (hN : L.flatten.length ≤ 17592186044415) :
    Calls Try.prog 6 #[v, .int .i64 i0, .int .i64 k0] w (fun e w' => e = .returned (.bool true) ∧ Up w w') := by
  have ha := Lib.hid (fun w' (k : Up w w') => all_any v L w' (hL.up k) hu hN)
  have HOI := Lib.hid (unq_in L.flatten)
  have HOA := Lib.hid (unq_all L.flatten)
  have HON := Lib.hid (unq_nodup L.flatten)
  generalize unq L.flatten = out at *
  have hm := hL.max
  have HL := Lib.hid hL
  obtain ⟨A, c, rfl, -⟩ := hL
  generalize hn : L.length = n at *
  have HN := Lib.hid hn
  unfold maxLen at *
  clear hn hu hN
  go_enter Try.func6, Try.ntmps6
  have U0 : Up w w := Up.refl w
  go_wp2_with (fail)
  refine (shown_any _).mono ?_
  rintro e w1 ⟨rfl, k1⟩
  have U1 := U0.trans k1
  clear k1
  go_wp2_with (fail)
  refine (ha.out _ U1).mono ?_
  rintro e w2 ⟨y, rfl, ho, k2⟩
  have HO := Lib.hid (Sl.of_lo ho)
  have HU2 := Lib.hid (U1.trans k2)
  have hom := HO.out.max
  have ho := HO.out
  obtain ⟨OA, oc, rfl, hoc1, hoc2, -⟩ := ho
  generalize hol : out.length = m at *
  have HOL := Lib.hid hol
  unfold maxLen at *
  clear U1 U0 k2 hol
  have HL2 := Lib.hid (HL.out.up HU2.out)
  go_wp2_with (fail)
  go_loopw [9] (fun i wr => ORel w2 m i wr) (fun i _ => m - (intOf i).toNat)
  case atStart => exact ⟨0, Nat.zero_le _, rfl, Up.refl _⟩
  case round =>
    rename World => wb
    obtain ⟨x, hxm, rfl, hU⟩ := hrel
    have HU := Lib.hid hU
    clear hU
    by_cases hlt : x < m
    · have hlt' : x < out.length := by rw [HOL.out]; exact hlt
      obtain ⟨po, rfl, hco⟩ := HO.out.rd.at_ hlt
      have HRO := Lib.hid (Rd.take HO.out.rd (show x ≤ m by omega))
      have HBI := Lib.hid (HOI.out _ (getD_mem 0 hlt'))
      have HBN := Lib.hid (nodup_take HON.out hlt')
      generalize out.getD x 0 = b at *
      generalize out.take x = tl at *
      have HCO := Lib.hid hco
      have HRW := Lib.hid (in_rows HBI.out.2)
      rw [HN.out] at HRW
      clear hco
      go_wp2_with (fail)
      go_loopw [10, 11] (fun u10 u11 wr => IRel w2 b L n u10 u11 wr) (fun _ i _ => n - (intOf i).toNat)
      case atStart => exact ⟨0, false, Nat.zero_le _, rfl, rfl, fun q j hj => absurd hj (by omega), HU.out⟩
      case round =>
        rename World => wc
        clear HU
        obtain ⟨k, q, hkn, rfl, rfl, hq9, hU⟩ := hrel
        have HQ := Lib.hid hq9
        clear hq9
        by_cases hk : k < n
        · obtain ⟨pl, ul, rfl, hcl, hsl⟩ := (HL2.out.up hU).at_ hk
          have hlm := hsl.max
          have hco := hU.cell HCO.out
          have HQS := Lib.hid (fun (r : Bool) (hr : r = decide (b ∈ L.getD k [])) (h : (q || r) = false) => in_step k HQ.out r hr h)
          have hf3 := Lib.hid (fun m => rhas_any' ul (L.getD k []) b (wc.drewN m) (hsl.up ((Up.refl wc).drewN m)))
          obtain ⟨r, hr⟩ : ∃ r, r = decide (b ∈ L.getD k []) := ⟨_, rfl⟩
          rw [← hr] at hf3
          have HQS := Lib.hid (HQS.out r hr)
          obtain ⟨Al, cl, rfl, -⟩ := hsl
          generalize (L.getD k []).length = kl at *
          have HU := Lib.hid hU
          clear hU hr HQ
          cases q
          · go_wp2_with (fail)
            go_quiet ((go_at_call 26; with_reducible exact quiet9 (hf3.out _)))
            go_wp2
            go_roundw
            case rel => exact ⟨k + 1, r, by omega, rfl, by go_num, fun h => HQS.out (by rw [h]; rfl), HU.out.drewN nq⟩
            case measure => simp [intOf]; omega
          · go_wp2_with (fail)
            go_quiet ((go_at_call 26; with_reducible exact quiet9 (hf3.out _)))
            go_wp2
            go_roundw
            case rel => exact ⟨k + 1, true, by omega, rfl, by go_num, fun h => (by cases h), HU.out.drewN nq⟩
            case measure => simp [intOf]; omega
        · obtain rfl : k = n := by omega
          have HQT : Hid (q = true) := Lib.hid (by
            cases q
            · obtain ⟨j, h1, h2⟩ := HRW.out
              exact absurd h2 (HQ.out rfl j h1)
            · rfl)
          have hqt := HQT.out
          subst hqt
          have hco := hU.cell HCO.out
          have hbz : (b == 0) = false := beq_eq_false_iff_ne.2 HBI.out.1
          have hf2 := Lib.hid (fun m => rhas_any (some po) x oc tl b (wc.drewN m) (HRO.out.up (hU.drewN m)) (by unfold maxLen; omega))
          rw [decide_eq_false HBN.out] at hf2
          have hs3 := fun w => (run_cut (some po) m oc x (by omega) (fun q => by cases q) w).1
          have hs4 := fun w => (run_cut (some po) m oc x (by omega) (fun q => by cases q) w).2
          have HU := Lib.hid hU
          clear hU HQT HQ
          go_wp2_with (fail)
          go_quiet ((go_at_call 26; with_reducible exact quiet9 (hf2.out _)))
          have hUq := HU.out.drewN nq
          have hcq : (wc.drewN nq).cell? (po.add x) = some (.int .u64 b) := ((Up.refl wc).drewN nq).cell hco
          generalize World.drewN wc nq = wq at hUq hcq ⊢
          have HUq := Lib.hid hUq
          clear hUq hco hf2 hs3 hs4 HU
          go_wp2
          go_roundw
          case rel => exact ⟨x + 1, by omega, by go_num, HUq.out⟩
          case measure => simp [intOf]; omega
    · obtain rfl : x = m := by omega
      have hcs := HL2.out
      have HU3 := Lib.hid (HU2.out.trans HU.out)
      have HLb := Lib.hid (HL2.out.up HU.out)
      have HOb := Lib.hid (HO.out.up HU.out)
      clear HU hcs
      have HU := HU3
      by_cases hi0 : i0 < 0
      · have h1 : decide (i0 < 0) = true := decide_eq_true hi0
        clear hi0
        go_wp2
        go_ret
        exact ⟨rfl, HU.out⟩
      have h1 : decide (i0 < 0) = false := decide_eq_false hi0
      by_cases hin : (n : Int) ≤ i0
      · have h2 : decide (i0 ≥ (n : Int)) = true := decide_eq_true hin
        clear hin hi0
        go_wp2
        go_ret
        exact ⟨rfl, HU.out⟩
      obtain ⟨i, rfl⟩ : ∃ i : Nat, i0 = i := ⟨i0.toNat, by omega⟩
      have hil : i < n := by omega
      have h2 : decide ((i : Int) ≥ (n : Int)) = false := decide_eq_false (by omega)
      clear hi0 hin
      by_cases hk0 : k0 < 0
      · have h3 : decide (k0 < 0) = true := decide_eq_true hk0
        clear hk0
        go_wp2
        go_ret
        exact ⟨rfl, HU.out⟩
      have h3 : decide (k0 < 0) = false := decide_eq_false hk0
      obtain ⟨pl, ul, rfl, hcl, hsl⟩ := HLb.out.at_ hil
      have hil2 : i < L.length := by rw [HN.out]; exact hil
      have HFR := Lib.hid (fun (k : Nat) h => of_rows (k := k) hil2 h)
      generalize L.getD i [] = xs at *
      have hxm := hsl.max
      have HSX := Lib.hid hsl
      obtain ⟨Ax, cx, rfl, -⟩ := hsl
      generalize hxl : xs.length = l at *
      have HXL := Lib.hid hxl
      unfold maxLen at hxm
      clear hxl
      by_cases hkn : (l : Int) ≤ k0
      · have h4 : decide (k0 ≥ (l : Int)) = true := decide_eq_true hkn
        clear hkn hk0
        go_wp2
        go_ret
        exact ⟨rfl, HU.out⟩
      obtain ⟨k, rfl⟩ : ∃ k : Nat, k0 = k := ⟨k0.toNat, by omega⟩
      have hkl : k < l := by omega
      have h4 : decide ((k : Int) ≥ (l : Int)) = false := decide_eq_false (by omega)
      clear hk0 hkn
      obtain ⟨px, rfl, hcx⟩ := HSX.out.rd.at_ hkl
      have HIN := Lib.hid (HFR.out k hkl)
      generalize xs.getD k 0 = a at *
      by_cases ha0 : a = 0
      · subst ha0
        go_wp2
        go_ret
        exact ⟨rfl, HU.out⟩
      have h5 : (a == 0) = false := beq_eq_false_iff_ne.2 ha0
      have hf2 := rhas_any' _ out a wb HOb.out
      rw [decide_eq_true (HOA.out a HIN.out ha0)] at hf2
      have hf2 := Lib.hid hf2
      clear ha0
      go_wp2_with (fail)
      refine hf2.out.mono ?_
      rintro e w5 ⟨rfl, rfl⟩
      go_wp2
      go_ret
      exact ⟨rfl, HU.out⟩

theorem own : ownKnob Try.prog.godebug = none := by kernel_rfl
set_option maxRecDepth 100000 in
theorem contract (H : Type) (enc : TypeId × Value → H) (W : World) (base : Nat) (args : Array Value) (ds gs : List (DataW H)) (before : List MemPlace)
    (hval0 : ∀ (j : Nat) t v, Try.f6.params[j]? = some t → args[j]? = some v → Value.okWide Try.prog W .any base t v)
    (hW : DataW.Whole enc Try.prog Try.f6.params.toList Rows.stackAllSpec.vars false W args.toList ds gs before) (hk : Rows.uptoSmall H (ds ++ gs) = true) :
    Calls Try.prog 6 args W fun e W' => ∃ v, e = .returned v ∧ Rows.stackAllSpec.post enc Try.prog Try.f6 false true false false W args v W' := by
  have hval : ∀ (j : Nat) t v, Try.f6.params[j]? = some t → args[j]? = some v → Value.okWide Try.prog W .any base t v := hval0
  have hW' := hW
  obtain ⟨p, q, hA0, hV, rfl, hfz, hnd⟩ := hW
  have hA : DataW.TrodAll enc Try.prog W 0 (fun _ => true) true Try.f6.params.toList args.toList ds p := hA0
  rw [Try.params6] at hA hval
  obtain ⟨v0, vs0, d0, ds0, p0, q0, hargs, rfl, rfl, h0, r0⟩ := trodAll_cons hA
  obtain ⟨v1, vs1, d1, ds1, p1, q1, rfl, rfl, rfl, h1, r1⟩ := trodAll_cons r0
  obtain ⟨v2, vs2, d2, ds2, p2, q2, rfl, rfl, rfl, h2, r2⟩ := trodAll_cons r1
  obtain ⟨rfl, rfl, rfl⟩ := trodAll_nil r2
  obtain rfl : args = #[v0, v1, v2] := by cases args; simp_all
  obtain ⟨rfl, rfl⟩ := trodVars_none hV
  have hbk : Rows.uptoBulkAll [d0, d1, d2] ≤ 1048576 := of_decide_eq_true hk
  simp only [Rows.uptoBulkAll] at hbk
  clear hk
  have h0k := h0
  obtain ⟨xs0, s0, u0, b0, y0⟩ := rows_at (hval 0 24 v0 rfl rfl) h0
  obtain ⟨a1, rfl, rfl, rfl, w1⟩ := open_int Try.underlying3 (hval 1 3 v1 rfl rfl) h1
  obtain ⟨a2, rfl, rfl, rfl, w2⟩ := open_int Try.underlying3 (hval 2 3 v2 rfl rfl) h2
  clear hA0 hval0
  simp only [List.append_nil, List.nil_append] at hW'
  refine (walk v0 xs0 a1 a2 W s0 u0 (by omega)).mono fun e W' ⟨he, hg⟩ => ?_
  subst he
  exact ⟨_, rfl, post_below (pa := p0) (pv := []) hW' (fun _ _ _ => (trodAll_cons_mk (shut_bool Try.underlying4 _) trodAll_mk0))
    (fun sp hsp => by
      have t := (trodAll_cons_mk (trod_keeps (sp := sp) (by kernel_rfl) (of_decide_eq_true (by kernel_rfl)) h0k hg (fun x hx => hW'.lt x (by simp [hx])) (fun x hx => hsp x (by simp [hx]))) (trodAll_cons_mk (shut_int Try.underlying3 w1) (trodAll_cons_mk (shut_int Try.underlying3 w2) trodAll_mk0)))
      simp only [List.append_nil, List.nil_append] at t
      exact t) (fun _ _ => rfl) (by simp)
    hg (ok_one (by kernel_rfl) rfl (okWide_bool_mk Try.underlying4 _))⟩

set_option maxRecDepth 100000 in
theorem lifted (os : Os) (started : os.Started) (H : Type) (enc : TypeId × Value → H) (F : Stop.Interp) :
    ReturnsInHanded {} Try.checked os 6 .any ((Rows.OpenSpec.upto Rows.stackAllSpec).pre6 enc Try.prog Try.f6 Rows.stackAllUptoRow.domain false) (((Rows.OpenSpec.upto Rows.stackAllSpec).at F).post enc Try.prog Try.f6 false true false false) := by
  refine returnsInHanded_of_cond (C := Try.checked) (s := Rows.OpenSpec.upto Rows.stackAllSpec) (k := Rows.uptoSmall) rfl own started (by kernel_rfl) Try.func6
    (OpenSpec.witness (enc := enc) (C := Try.checked) (s := Rows.OpenSpec.upto Rows.stackAllSpec) (k := Rows.uptoSmall) rfl false ⟨#[], #[.slice none 0 0, .int .i64 0, .int .i64 0], []⟩ 8 (by kernel_rfl) (by kernel_rfl) (by kernel_rfl)
      (x := ([.nil, .lit (.int .i64 0), .lit (.int .i64 0)], [], [])) (by kernel_rfl) rfl (by kernel_rfl)) ?_
  intro W base args ds gs before hval hW _ hk _
  exact contract H enc W base args ds gs before hval hW hk

set_option maxRecDepth 100000 in
theorem over : Rows.stackAllUptoRow.holds Try.pinned (Rows.OpenSpec.upto Rows.stackAllSpec) :=
  OpenClaim.holds_of_cond 6 Try.f6 rfl rfl rfl rfl rfl rfl rfl ⟨rfl, rfl, rfl, rfl, rfl⟩ rfl rfl rfl rfl rfl (by kernel_rfl) Try.func6 (by kernel_rfl)
    (of_decide_eq_true (by kernel_rfl)) (by unfold Func.isWrapper; first | (rw [if_pos (by decide +kernel)]; kernel_rfl) | (rw [if_neg (by decide +kernel)]; exact ⟨rfl, rfl⟩))
    (fun os started H enc _ F => lifted os started H enc F)

theorem proved : Rows.StackAllUptoSaid :=
  over
#print axioms proved
end Go.Proofs.Ytpbbbgcafphplaa.LStackAll
