/- The statement ViewWords is proved for every input, from contracts of the functions that it calls; no condition is added. -/
import Derived.Test.YtanhhkdoejnpiaaWb
import Derived.Test.YtanhhkdoejnpiaaRc
namespace Go.Proofs.Ytanhhkdoejnpiaa.LViewWords
open G
open Go.Joins Go.ChangeShapes Go.WideShapes Go.ChangeAt Go.RowKit Go.Deep Go.Shelf Go.Maps
set_option linter.unusedVariables false
set_option linter.unusedSimpArgs false

theorem rall_let (v : Value) (L : List (List Int)) (w : World) (hL : K.Rw w v L) (hN : L.flatten.length ≤ 1048576) :
    Calls Try.prog 9 #[v] w fun e w' => ∃ A c, e = .returned (.slice A (K.unq L.flatten).length c) ∧ Sl .u64 w' (.slice A (K.unq L.flatten).length c) (K.unq L.flatten) ∧ Up w w' :=
  (K.rall_any v L w hL (by omega)).mono fun e w' h => by
    obtain ⟨u, rfl, hlo, k⟩ := h
    have hs := sl_lo hlo
    obtain ⟨A, c, rfl⟩ := hs.slice
    exact ⟨A, c, rfl, hs, k⟩
theorem few_is {N : Int} {n0 n1 : Nat} {L : List (List Int)} (h : fewb N n0 n1 L = true) : ∃ n : Nat, N = n ∧ n0 = n ∧ n1 = n ∧ 16 ≤ n ∧ n ≤ 200 ∧ L.length ≤ 10 := by
  unfold fewb rt at h
  simp only [Bool.and_eq_true, decide_eq_true_eq] at h
  exact ⟨n0, by omega, rfl, by omega, by omega, by omega, h.2.2.1⟩
theorem rw_nilsA (w : World) (n : Nat) (hn : n ≤ maxLen) : Rw .u64 (w.alloc (.cells (Array.replicate n (Value.slice none 0 0)) 22)) (.slice (some ⟨w.heap.size, 0, none⟩) n n) (List.replicate n []) :=
  rw_nils (by rw [List.toArray_replicate]; exact Blk.new w _ _) hn
set_option maxRecDepth 100000 in
set_option maxHeartbeats 4000000 in
theorem walk_no (N : Int) (A0 A1 : Option Addr) (n0 n1 c0 c1 : Nat) (v : Value) (L : List (List Int)) (w : World) (hL : K.Rw w v L) (hN : L.flatten.length ≤ 1048576) (hf : fewb N n0 n1 L = false) :
    Calls Try.prog 3 #[.agg #[.int .i64 N, .slice A0 n0 c0, .slice A1 n1 c1], v] w fun e w' => e = .returned (.bool true) ∧ Up w w' := by
  have HF := Lib.hid (fun V (k : Up w V) => by
    have h := few_any N A0 A1 n0 n1 c0 c1 v L V (hL.up k) hN
    rw [hf] at h
    exact h)
  obtain ⟨A, c, rfl, -⟩ := hL
  clear hN hf
  generalize L.length = n at *
  have HBM := Lib.hid (Blk.new w 25 #[.int .i64 N, .slice A0 n0 c0, .slice A1 n1 c1])
  have HK1 : Hid (Up w (w.alloc (.cells #[.int .i64 N, .slice A0 n0 c0, .slice A1 n1 c1] 25))) := Lib.hid ((Up.refl w).alloc _)
  go_enter Try.func3, Try.ntmps3
  go_wp2_with (fail)
  refine (shown_any _).mono ?_
  rintro e w1 ⟨rfl, k1⟩
  have bM1 := HBM.out.up k1
  have hc := bM1.cell
  have hl := bM1.lt
  have HK2 := Lib.hid (HK1.out.trans k1)
  clear k1 bM1
  go_wp2_with (fail)
  refine (HF.out _ HK2.out).mono ?_
  rintro e w2 ⟨rfl, k2⟩
  have HK3 := Lib.hid (HK2.out.trans k2)
  clear k2 hc hl
  go_wp2
  go_ret
  exact ⟨rfl, HK3.out⟩
set_option maxRecDepth 100000 in
set_option maxHeartbeats 8000000 in
theorem walk_yes (m : Me) (P Q : Addr) (c0 c1 : Nat) (v : Value) (L : List (List Int)) (w : World) (hm : Sits w m P Q c0 c1) (hwf : m.wf) (hL : K.Rw w v L) (hO : RwOk L) (hs : L.length ≤ 1048576) (hf : fewb m.n m.n m.n L = true) :
    Calls Try.prog 3 #[mev m.n P Q c0 c1, v] w fun e w' => e = .returned (.bool true) ∧ Up w w' := by
  have hn : m.n ≤ 4096 := hm.1.2.1
  have HF := Lib.hid (fun V (k : Up w V) => by
    have h := few_any m.n (some P) (some Q) m.n m.n c0 c1 v L V (hL.up k) hO.l
    rw [hf] at h
    exact h)
  have HALL := Lib.hid (fun V (k : Up w V) => rall_let v L V (hL.up k) hO.l)
  have huq : ∀ x ∈ K.unq L.flatten, U64 x := fun x hx => hO.u x (unq_mem hx)
  have HRE := Lib.hid (fun V A n cu (k : Up w V) (h : Sl .u64 V (.slice A n cu) (K.unq L.flatten)) => by
    have h := rreach_let m P Q c0 c1 A n cu (K.unq L.flatten) V (hm.up k) hwf h huq
    exact h.mono (R' := fun e w' => ∃ A c, e = .returned (.slice A (m.rch L.flatten).length c) ∧ Sl .u64 w' (.slice A (m.rch L.flatten).length c) (m.rch L.flatten) ∧ Up V w') fun e w' hp => by
      unfold RchP at hp
      rw [rch_unq] at hp
      exact hp)
  have HWO := Lib.hid (fun V A n cu (k : Up w V) (h : Sl .u64 V (.slice A n cu) (m.rch L.flatten)) => by
    have h := rwords6_any m P Q c0 c1 (.slice A n cu) (m.rch L.flatten) V (hm.up k) hwf h (rch_u64 m _) (by have := rch_len m hn L.flatten; omega)
    rw [fws_rch] at h
    exact h)
  have HW1 := Lib.hid (fun V (k : Up w V) => vwords_any m P Q c0 c1 v L V (hm.up k) hwf (rw_of_k (hL.up k)) hO)
  have HW2 := Lib.hid (fun V (k : Up w V) => vwords_any m P Q c0 c1 (.slice none 0 0) [] V (hm.up k) hwf (Rw.nil _ _) ⟨fun x hx => (by cases hx), by decide⟩)
  have HW3 := Lib.hid (fun V u (k : Up w V) (hu : Rw .u64 V u (List.replicate L.length [])) => by
    have h := vwords_any m P Q c0 c1 u (List.replicate L.length []) V (hm.up k) hwf hu ⟨fun x hx => by simp at hx, by simp⟩
    rw [show (List.replicate L.length ([] : List Int)).flatten = [] from by simp] at h
    exact h)
  rw [show m.ows (m.rch ([] : List Int)) = 0 from rfl] at HW3
  rw [show m.ows (m.rch ([] : List (List Int)).flatten) = 0 from rfl] at HW2
  obtain ⟨A, c, rfl, -⟩ := hL
  have hq := K.unq_len L.flatten
  have hol := hO.l
  have hrl := rch_len m hn L.flatten
  clear hm hwf hO hf huq
  generalize m.rch L.flatten = l at *
  generalize K.unq L.flatten = q at *
  generalize m.ows l = y at *
  generalize L.length = n at *
  have hmk := fun V => run_makeRowsW n hs V
  have HBM := Lib.hid (Blk.new w 25 (mec m.n P Q c0 c1))
  have HK1 : Hid (Up w (w.alloc (.cells (mec m.n P Q c0 c1) 25))) := Lib.hid ((Up.refl w).alloc _)
  go_enter Try.func3, Try.ntmps3
  go_wp2_with (fail)
  refine (shown_any _).mono ?_
  rintro e w1 ⟨rfl, k1⟩
  have bM1 := HBM.out.up k1
  have hc := bM1.cell
  have hl := bM1.lt
  have HK2 := Lib.hid (HK1.out.trans k1)
  clear k1 
  go_wp2_with (fail)
  refine (HF.out _ HK2.out).mono ?_
  rintro e w2 ⟨rfl, k2⟩
  have HK3 := Lib.hid (HK2.out.trans k2)
  have bM2 := (bM1.up k2).drew
  have U2 := HK3.out.drew
  clear k2 hc hl bM1
  have UU := Up.refl w2.drew
  go_wp2_with (fail)
  go_region_held3 (fun w' => (∀ i, w'.cell? ⟨w.heap.size, i, none⟩ = (mec m.n P Q c0 c1 : Array Value)[i]?))
    (exact fun i => (Blk.up bM2 (by assumption)).cell i)
    (first
      | (go_at_call 9; ((with_reducible refine (HALL.out _ (U2.trans (by assumption))).mono ?_); rintro e wz ⟨Aa, ca, rfl, sa, hz⟩; have UZ := Up.trans (a := w2.drew) (by assumption) hz))
      | (go_at_call 8; ((with_reducible refine (HRE.out _ _ _ _ (U2.trans (by assumption)) (by assumption)).mono ?_); rintro e wz ⟨Ar, cr, rfl, sr, hz⟩; have UZ := Up.trans (a := w2.drew) (by assumption) hz))
      | (go_at_call 7; ((with_reducible refine (HWO.out _ _ _ _ (U2.trans (by assumption)) (by assumption)).mono ?_); rintro e wz ⟨rfl, hz⟩; have UZ := Up.trans (a := w2.drew) (by assumption) hz)))
  rename World => wb
  have HU5 := Lib.hid (U2.trans UZ)
  have bM5 := (bM2.up UZ).drew
  have U5 := HU5.out.drew
  clear sa sr bM2 U2 UU UZ hz
  have hmx : n ≤ maxLen := by unfold maxLen; omega
  have UU := Up.refl wb.drew
  go_wp2_with (fail)
  go_region_held3 (fun w' => (∀ i, w'.cell? ⟨w.heap.size, i, none⟩ = (mec m.n P Q c0 c1 : Array Value)[i]?))
    (exact fun i => (Blk.up bM5 (by first | assumption | exact Up.alloc (by assumption) _)).cell i)
    (first
      | (go_at_call 10; (with_reducible refine (HW1.out _ (U5.trans (by assumption))).mono ?_); rintro e wz ⟨rfl, hz⟩; have UZ := Up.trans (a := wb.drew) (by assumption) hz)
      | (go_at_call 10; (with_reducible refine (HW2.out _ (U5.trans (by assumption))).mono ?_); rintro e wz ⟨rfl, hz⟩; have UZ := Up.trans (a := wb.drew) (by assumption) hz)
      | (go_at_call 10; (with_reducible refine (HW3.out _ _ (U5.trans (by exact Up.alloc (by assumption) _)) (rw_nilsA _ _ hmx)).mono ?_); rintro e wz ⟨rfl, hz⟩; have UZ := Up.trans (a := wb.drew) (Up.alloc (by assumption) _) hz))
  rename World => wf
  have HU6 := Lib.hid (U5.trans UZ)
  go_wp2
  go_ret
  exact ⟨rfl, HU6.out⟩
set_option maxRecDepth 100000 in
theorem walk (N : Int) (A0 A1 : Option Addr) (n0 n1 c0 c1 : Nat) (xs ys : List Int) (v : Value) (L : List (List Int)) (w : World) (hx : SlOk w A0 n0 c0 xs) (hy : SlOk w A1 n1 c1 ys) (hL : K.Rw w v L) (hu : ∀ r ∈ L, ∀ y ∈ r, U64 y) (hb : L.flatten.length + L.length ≤ 1048576) :
    Calls Try.prog 3 #[.agg #[.int .i64 N, .slice A0 n0 c0, .slice A1 n1 c1], v] w fun e w' => e = .returned (.bool true) ∧ Up w w' := by
  cases hf : fewb N n0 n1 L with
  | false => exact walk_no N A0 A1 n0 n1 c0 c1 v L w hL (by omega) hf
  | true =>
    obtain ⟨n, rfl, rfl, rfl, h16, h200, -⟩ := few_is hf
    obtain ⟨P, Q, rfl, rfl, hs⟩ := sits_of hx hy h16 (by omega)
    exact walk_yes ⟨n1, xs, ys⟩ P Q c0 c1 v L w hs (sits_wf hx hy) hL ⟨fun y hy => by
      obtain ⟨r, hr, hy⟩ := List.mem_flatten.1 hy
      exact hu r hr y hy, by omega⟩ (by omega) hf
set_option maxRecDepth 100000 in
theorem opened {H : Type} {enc : TypeId × Value → H} {w : World} {r : Reach} {b0 : Nat} {v : Value} {d : DataW H} {p : List MemPlace} (hv : Value.okWide Try.prog w r b0 25 v) (h : DataW.Trod enc Try.prog w 0 (fun _ => true) true 25 v d p) :
    ∃ (N : Int) (A0 A1 : Option Addr) (n0 n1 c0 c1 : Nat) (xs ys : List Int), v = .agg #[.int .i64 N, .slice A0 n0 c0, .slice A1 n1 c1] ∧ I64 N ∧ SlOk w A0 n0 c0 xs ∧ SlOk w A1 n1 c1 ys := by
  obtain ⟨⟨l⟩, rfl, hsz⟩ := okWide_struct Try.underlying25 hv
  match l, hsz.trans cells_mem with
  | [z0, z1, z2], _ =>
    obtain ⟨fuel, hf⟩ := h
    obtain ⟨N, A0, A1, n0, n1, c0, c1, xs, ys, rfl, rfl, rfl, h1, h2, h3⟩ := mem_open (v0 := z0) (v1 := z1) (v2 := z2) hf
    exact ⟨N, A0, A1, n0, n1, c0, c1, xs, ys, rfl, h1, h2, h3⟩

theorem own : ownKnob Try.prog.godebug = none := by kernel_rfl
set_option maxRecDepth 100000 in
theorem contract (H : Type) (enc : TypeId × Value → H) (W : World) (base : Nat) (args : Array Value) (ds gs : List (DataW H)) (before : List MemPlace)
    (hval0 : ∀ (j : Nat) t v, Try.f3.params[j]? = some t → args[j]? = some v → Value.okWide Try.prog W .any base t v)
    (hW : DataW.Whole enc Try.prog Try.f3.params.toList Rows.viewWordsSpec.vars false W args.toList ds gs before) (hk : Rows.uptoSmall H (ds ++ gs) = true) :
    Calls Try.prog 3 args W fun e W' => ∃ v, e = .returned v ∧ Rows.viewWordsSpec.post enc Try.prog Try.f3 false true false false W args v W' := by
  have hval : ∀ (j : Nat) t v, Try.f3.params[j]? = some t → args[j]? = some v → Value.okWide Try.prog W .any base t v := hval0
  have hW' := hW
  obtain ⟨p, q, hA0, hV, rfl, hfz, hnd⟩ := hW
  have hA : DataW.TrodAll enc Try.prog W 0 (fun _ => true) true Try.f3.params.toList args.toList ds p := hA0
  rw [Try.params3] at hA hval
  obtain ⟨v0, vs0, d0, ds0, p0, q0, hargs, rfl, rfl, h0, r0⟩ := trodAll_cons hA
  obtain ⟨v1, vs1, d1, ds1, p1, q1, rfl, rfl, rfl, h1, r1⟩ := trodAll_cons r0
  obtain ⟨rfl, rfl, rfl⟩ := trodAll_nil r1
  obtain rfl : args = #[v0, v1] := by cases args; simp_all
  obtain ⟨rfl, rfl⟩ := trodVars_none hV
  have hbk : Rows.uptoBulkAll [d0, d1] ≤ 1048576 := of_decide_eq_true hk
  simp only [Rows.uptoBulkAll] at hbk
  clear hk
  have h0k := h0
  obtain ⟨N, A0, A1, n0, n1, c0, c1, xs, ys, rfl, hN, hx, hy⟩ := opened (hval 0 25 v0 rfl rfl) h0
  have h1k := h1
  obtain ⟨L1, hL1, hu1, hb1, hl1⟩ := K.rows_at (hval 1 26 v1 rfl rfl) h1
  clear hA0 hval0
  simp only [List.append_nil, List.nil_append] at hW'
  refine (walk N A0 A1 n0 n1 c0 c1 xs ys v1 L1 W hx hy hL1 hu1 (by omega)).mono fun e W' ⟨he, hg⟩ => ?_
  subst he
  exact ⟨_, rfl, post_below (pa := p0 ++ p1) (pv := []) hW' (fun _ _ _ => (trodAll_cons_mk (shut_bool Try.underlying4 _) trodAll_mk0))
    (fun sp hsp => by
      have t := (trodAll_cons_mk (trod_keeps (sp := sp) (by kernel_rfl) (of_decide_eq_true (by kernel_rfl)) h0k hg (fun x hx => hW'.lt x (by simp [hx])) (fun x hx => hsp x (by simp [hx]))) (trodAll_cons_mk (trod_keeps (sp := sp) (by kernel_rfl) (of_decide_eq_true (by kernel_rfl)) h1k hg (fun x hx => hW'.lt x (by simp [hx])) (fun x hx => hsp x (by simp [hx]))) trodAll_mk0))
      simp only [List.append_nil, List.nil_append] at t
      exact t) (fun _ _ => rfl) (by simp)
    hg (ok_one (by kernel_rfl) rfl (okWide_bool_mk Try.underlying4 _))⟩

set_option maxRecDepth 100000 in
theorem lifted (os : Os) (started : os.Started) (H : Type) (enc : TypeId × Value → H) (F : Stop.Interp) :
    ReturnsInHanded {} Try.checked os 3 .any ((Rows.OpenSpec.upto Rows.viewWordsSpec).pre6 enc Try.prog Try.f3 Rows.viewWordsUptoRow.domain false) (((Rows.OpenSpec.upto Rows.viewWordsSpec).at F).post enc Try.prog Try.f3 false true false false) := by
  refine returnsInHanded_of_cond (C := Try.checked) (s := Rows.OpenSpec.upto Rows.viewWordsSpec) (k := Rows.uptoSmall) rfl own started (by kernel_rfl) Try.func3
    (OpenSpec.witness (enc := enc) (C := Try.checked) (s := Rows.OpenSpec.upto Rows.viewWordsSpec) (k := Rows.uptoSmall) rfl false ⟨#[], #[.agg #[.int .i64 0, .slice none 0 0, .slice none 0 0], .slice none 0 0], []⟩ 8 (by kernel_rfl) (by kernel_rfl) (by kernel_rfl)
      (x := ([.agg [.lit (.int .i64 0), .agg [.nil, .nil]], .nil], [], [])) (by kernel_rfl) rfl (by kernel_rfl)) ?_
  intro W base args ds gs before hval hW _ hk _
  exact contract H enc W base args ds gs before hval hW hk

set_option maxRecDepth 100000 in
theorem over : Rows.viewWordsUptoRow.holds Try.pinned (Rows.OpenSpec.upto Rows.viewWordsSpec) :=
  OpenClaim.holds_of_cond 3 Try.f3 rfl rfl rfl rfl rfl rfl rfl ⟨rfl, rfl, rfl, rfl, rfl⟩ rfl rfl rfl rfl rfl (by kernel_rfl) Try.func3 (by kernel_rfl)
    (of_decide_eq_true (by kernel_rfl)) (by unfold Func.isWrapper; first | (rw [if_pos (by decide +kernel)]; kernel_rfl) | (rw [if_neg (by decide +kernel)]; exact ⟨rfl, rfl⟩))
    (fun os started H enc _ F => lifted os started H enc F)

theorem proved : Rows.ViewWordsUptoSaid :=
  over
#print axioms proved
end Go.Proofs.Ytanhhkdoejnpiaa.LViewWords
