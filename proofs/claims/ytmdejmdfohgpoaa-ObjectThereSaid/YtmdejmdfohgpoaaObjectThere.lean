/- The statement ObjectThere is proved for every input, from contracts of the functions that it calls; no condition is added. -/
import Derived.Test.YtmdejmdfohgpoaaOb12
namespace Go.Proofs.Ytmdejmdfohgpoaa.LObjectThere
open Go.Joins Go.ChangeShapes Go.WideShapes Go.ChangeAt Go.RowKit Go.Deep
set_option linter.unusedVariables false
set_option linter.unusedSimpArgs false

set_option maxRecDepth 100000 in
set_option maxHeartbeats 4000000 in
theorem walk_no (NM : Int) (AM0 AM1 : Option Addr) (nM0 nM1 cM0 cM1 : Nat) (xsM ysM : List Int) (a : Int) (hfew : few NM nM0 nM1 = false) (w : World) :
    Calls Try.prog 9 #[.agg #[.int .i64 NM, .slice AM0 nM0 cM0, .slice AM1 nM1 cM1], .int .u64 a] w (fun e w' => e = .returned (.bool true) ∧ Up w w') := by
  have hf := fun w => few_any NM AM0 AM1 nM0 nM1 cM0 cM1 w
  rw [hfew] at hf
  have hf := Lib.hid hf
  clear hfew
  go_enter Try.func9, Try.ntmps9
  go_wp2_with (fail)
  refine (shown_any _).mono ?_
  rintro e w1 ⟨rfl, h1⟩
  have M1 : Blk w1 (w.heap.size) 25 #[.int .i64 NM, .slice AM0 nM0 cM0, .slice AM1 nM1 cM1] := ((Blk.new' _ (by simp) _ _)).up h1
  have U1 : Up w w1 := (((Up.refl w).alloc _)).trans h1
  clear h1
  have M1c := M1.cell
  have M1l := M1.lt
  go_wp2_with (fail)
  refine (hf.out _).mono ?_
  rintro e w2 ⟨rfl, h2⟩
  have M2 := M1.up h2
  have U2 : Up w w2 := U1.trans h2
  clear h2 M1 M1c M1l U1
  have M2c := M2.cell
  have M2l := M2.lt
  go_wp2
  go_ret
  exact ⟨rfl, U2⟩

set_option maxRecDepth 100000 in
set_option maxHeartbeats 8000000 in
theorem walk_no2 (m : Me) (P Q : Addr) (c d : Nat) (a : Int) (w : World) (hm : Sits w m P Q c d) (hn : m.n ≤ 200) (hwf : m.wf) (ha : U64 a) (hk : ¬ m.atok a) :
    Calls Try.prog 9 #[.agg #[.int .i64 m.n, .slice (some P) m.n c, .slice (some Q) m.n d], .int .u64 a] w (fun e w' => e = .returned (.bool true) ∧ Up w w') := by
  have hfew : few m.n m.n m.n = true := by unfold few rt; simp; have := hm.1.1; omega
  have hf := fun w => few_any m.n (some P) (some Q) m.n m.n c d w
  rw [hfew] at hf
  have hf := Lib.hid hf
  have hok := hm.1
  have HM := Lib.hid hm
  clear hfew hm
  obtain ⟨e1, e2, e3⟩ := at_no hk
  have h1 := fun (W : World) (hS : Sits W m P Q c d) => at_any m a P Q c d W hS ha hwf
  rw [e1, e2, e3] at h1
  have h1 := Lib.hid h1
  have hb : (m.ate a != 0) = true := bne_iff_ne.mpr (fun q => hk (ate_0.1 q))
  generalize m.ate a = z at h1 hb
  have hE : ∀ w, (binOp .eql 28 (.agg #[.int .i64 0, .int .i64 0, .int .u64 0]) (.agg #[.int .i64 0, .int .i64 0, .int .u64 0])).run Try.prog w = .ok (.bool true) w := fun w => by rw [eq_head, hsame_self]
  clear hwf ha hn hok hk e1 e2 e3
  go_enter Try.func9, Try.ntmps9
  go_wp2_with (fail)
  refine (shown_any _).mono ?_
  rintro e w1 ⟨rfl, h1⟩
  have M1 : Blk w1 (w.heap.size) 25 #[.int .i64 m.n, .slice (some P) m.n c, .slice (some Q) m.n d] := ((Blk.new' _ (by simp) _ _)).up h1
  have U1 : Up w w1 := (((Up.refl w).alloc _)).trans h1
  clear h1
  have M1c := M1.cell
  have M1l := M1.lt
  go_wp2_with (fail)
  refine (hf.out _).mono ?_
  rintro e w2 ⟨rfl, h2⟩
  have M2 := M1.up h2
  have U2 : Up w w2 := U1.trans h2
  clear h2 M1 M1c M1l U1
  have M2c := M2.cell
  have M2l := M2.lt
  go_wp2_with (fail)
  refine (h1.out _ (HM.out.up U2)).mono ?_
  rintro e w3 ⟨rfl, h3⟩
  have M3 := M2.up h3
  have U3 : Up w w3 := U2.trans h3
  clear h3 M2 M2c M2l U2
  have M3c := M3.cell
  have M3l := M3.lt
  go_wp2
  go_ret
  exact ⟨rfl, (U3.alloc _)⟩

set_option maxRecDepth 100000 in
set_option maxHeartbeats 8000000 in
theorem walk_yes (m : Me) (P Q : Addr) (c d : Nat) (a : Int) (w : World) (hm : Sits w m P Q c d) (hn : m.n ≤ 200) (hwf : m.wf) (ha : U64 a) (hk : m.atok a) :
    Calls Try.prog 9 #[.agg #[.int .i64 m.n, .slice (some P) m.n c, .slice (some Q) m.n d], .int .u64 a] w (fun e w' => e = .returned (.bool true) ∧ Up w w') := by
  have hfew : few m.n m.n m.n = true := by unfold few rt; simp; have := hm.1.1; omega
  have hf := fun w => few_any m.n (some P) (some Q) m.n m.n c d w
  rw [hfew] at hf
  have hf := Lib.hid hf
  have hok := hm.1
  have HM := Lib.hid hm
  clear hfew hm
  have hr := atok_rte hk
  have hi := hk.2.2
  obtain ⟨e1, e2, e3⟩ := at_of hk
  have h1 := fun (W : World) (hS : Sits W m P Q c d) => at_any m a P Q c d W hS ha hwf
  rw [e1, e2, e3, ate_0.2 hk] at h1
  have h1 := Lib.hid h1
  have h3 := Lib.hid (fun w => rhwords_any _ _ _ (mpw_nn (m.ld a)) hr w)
  have h4 := Lib.hid (fun w => rright_is _ _ _ 0 (mpw_nn (m.ld a)) hr w)
  have hws := wdn_small (mpw_nn (m.ld a)) hr
  have h2 := fun w => rwhere a ha.1 ha.2 w
  rw [hi.1] at h2
  have h2 := Lib.hid h2
  have hi2 := hi.2
  have p0 := whp_nn a
  have hn2 := hok.2.1
  clear e1 e2 e3 hr hi hk
  generalize wdn (tgw (m.ld a)) (lnw (m.ld a)) = k at h3 hws hi2
  generalize tgw (m.ld a) = t at h1 h3 h4
  generalize lnw (m.ld a) = l at h1 h3 h4
  generalize mpw (m.ld a) = mp at h1 h3 h4
  generalize whs a = sp at h2
  generalize whp a = p at h2 hi2 p0
  obtain ⟨w0, w1⟩ := hws
  have hsum : IntKind.i64.wrap (p + k) = p + k := IntWalk.i64_in _ (by omega)
  have hd : decide (p + k ≤ (m.n : Int)) = true := decide_eq_true hi2
  clear hwf ha hn hok hi2 hn2
  go_enter Try.func9, Try.ntmps9
  go_wp2_with (fail)
  refine (shown_any _).mono ?_
  rintro e w1 ⟨rfl, h1⟩
  have M1 : Blk w1 (w.heap.size) 25 #[.int .i64 m.n, .slice (some P) m.n c, .slice (some Q) m.n d] := ((Blk.new' _ (by simp) _ _)).up h1
  have U1 : Up w w1 := (((Up.refl w).alloc _)).trans h1
  clear h1
  have M1c := M1.cell
  have M1l := M1.lt
  go_wp2_with (fail)
  refine (hf.out _).mono ?_
  rintro e w2 ⟨rfl, h2⟩
  have M2 := M1.up h2
  have U2 : Up w w2 := U1.trans h2
  clear h2 M1 M1c M1l U1
  have M2c := M2.cell
  have M2l := M2.lt
  go_wp2_with (fail)
  refine (h1.out _ (HM.out.up U2)).mono ?_
  rintro e w3 ⟨rfl, h3⟩
  have M3 := M2.up h3
  have U3 : Up w w3 := U2.trans h3
  clear h3 M2 M2c M2l U2
  have M3c := M3.cell
  have M3l := M3.lt
  go_wp2_with (fail)
  refine (h2.out _).mono ?_
  rintro e w4 ⟨rfl, rfl⟩
  go_wp2_with (fail)
  obtain ⟨W0, hW0⟩ : ∃ W0 : World, W0 = (w3.alloc (.cells #[.int .i64 t, .int .i64 l, .int .u64 mp] 28)).drew := ⟨_, rfl⟩
  have U0 : Up W0 (w3.alloc (.cells #[.int .i64 t, .int .i64 l, .int .u64 mp] 28)).drew := by rw [hW0]; exact Up.refl _
  have M0 := (M3.alloc (.cells #[.int .i64 t, .int .i64 l, .int .u64 mp] 28)).drew
  have X0 := (Blk.new w3 28 #[.int .i64 t, .int .i64 l, .int .u64 mp]).drew
  have UW := (U3.alloc (.cells #[.int .i64 t, .int .i64 l, .int .u64 mp] 28)).drew
  rw [← hW0] at M0 X0 UW
  clear hW0 M3 M3c M3l U3
  go_region_held3 (fun w' => (∀ i, w'.cell? ⟨w.heap.size, i, none⟩ = (#[.int .i64 m.n, .slice (some P) m.n c, .slice (some Q) m.n d] : Array Value)[i]?) ∧ (∀ i, w'.cell? ⟨w3.heap.size, i, none⟩ = (#[.int .i64 t, .int .i64 l, .int .u64 mp] : Array Value)[i]?))
    (exact ⟨fun i => (Blk.up M0 (by assumption)).cell i, fun i => (Blk.up X0 (by assumption)).cell i⟩)
    (first
      | (go_at_call 28; ((with_reducible refine (h3.out _).mono ?_); rintro e wz ⟨rfl, hz⟩; have UZ := Up.trans (a := W0) (by assumption) hz))
      | (go_at_call 31; ((with_reducible refine (h4.out _).mono ?_); rintro e wz ⟨rfl, hz⟩; have UZ := Up.trans (a := W0) (by assumption) hz)))
  all_goals
    go_wp2
    go_ret
    exact ⟨rfl, UW.trans UZ⟩

theorem walk (NM : Int) (AM0 AM1 : Option Addr) (nM0 nM1 cM0 cM1 : Nat) (xsM ysM : List Int) (a : Int) (w : World) (hxM : SlOk w AM0 nM0 cM0 xsM) (hyM : SlOk w AM1 nM1 cM1 ysM) (ha : U64 a) :
    Calls Try.prog 9 #[.agg #[.int .i64 NM, .slice AM0 nM0 cM0, .slice AM1 nM1 cM1], .int .u64 a] w (fun e w' => e = .returned (.bool true) ∧ Up w w') := by
  cases hfew : few NM nM0 nM1
  · exact walk_no NM AM0 AM1 nM0 nM1 cM0 cM1 xsM ysM a hfew w
  · obtain ⟨rfl, rfl, h16, h200⟩ := few_is hfew
    obtain ⟨P, Q, rfl, rfl, hm⟩ := sits_of hxM hyM h16 (by omega)
    have hwf := sits_wf hxM hyM
    by_cases hk : (⟨nM0, xsM, ysM⟩ : Me).atok a
    · exact walk_yes ⟨nM0, xsM, ysM⟩ P Q cM0 cM1 a w hm h200 hwf ha hk
    · exact walk_no2 ⟨nM0, xsM, ysM⟩ P Q cM0 cM1 a w hm h200 hwf ha hk
set_option maxRecDepth 100000 in
theorem opened {H : Type} {enc : TypeId × Value → H} {w : World} {r : Reach} {b0 : Nat} {v : Value} {d : DataW H} {p : List MemPlace} (hv : Value.okWide Try.prog w r b0 25 v) (h : DataW.Trod enc Try.prog w 0 (fun _ => true) true 25 v d p) :
    ∃ (N : Int) (A0 A1 : Option Addr) (n0 n1 c0 c1 : Nat) (xs ys : List Int), v = .agg #[.int .i64 N, .slice A0 n0 c0, .slice A1 n1 c1] ∧ I64 N ∧ SlOk w A0 n0 c0 xs ∧ SlOk w A1 n1 c1 ys := by
  obtain ⟨⟨l⟩, rfl, hsz⟩ := okWide_struct Try.underlying25 hv
  match l, hsz.trans cells_mem with
  | [z0, z1, z2], _ =>
    obtain ⟨fuel, hf⟩ := h
    obtain ⟨N, A0, A1, n0, n1, c0, c1, xs, ys, rfl, rfl, rfl, h1, h2, h3⟩ := mem_open (v0 := z0) (v1 := z1) (v2 := z2) hf
    exact ⟨N, A0, A1, n0, n1, c0, c1, xs, ys, rfl, h1, h2, h3⟩

theorem own : ownKnob Try.prog.godebug = none := by kernel_rfl
set_option maxRecDepth 100000 in
theorem lifted (os : Os) (started : os.Started) (H : Type) (enc : TypeId × Value → H) :
    ReturnsInHanded {} Try.checked os 9 .any (Rows.objectThereSpec.pre6 enc Try.prog Try.f9 Rows.objectThereRow.domain false) (Rows.objectThereSpec.post enc Try.prog Try.f9 false true false false) := by
  refine returnsInHanded_of_change (C := Try.checked) own started (by kernel_rfl) Try.func9
    (ChangeSpec.witness6 (enc := enc) (C := Try.checked) false ⟨#[], #[.agg #[.int .i64 0, .slice none 0 0, .slice none 0 0], .int .u64 0], []⟩ 8 (by kernel_rfl) (by kernel_rfl) (by kernel_rfl) (by kernel_rfl)) ?_
  intro W base args ds gs before hval0 hW hcnd _
  have hval : ∀ (j : Nat) t v, Try.f9.params[j]? = some t → args[j]? = some v → Value.okWide Try.prog W .any base t v := hval0
  have hW' := hW
  obtain ⟨p, q, hA0, hV, rfl, hfz, hnd⟩ := hW
  have hA : DataW.TrodAll enc Try.prog W 0 (fun _ => true) true Try.f9.params.toList args.toList ds p := hA0
  rw [Try.params9] at hA hval
  obtain ⟨v0, vs0, d0, ds0, p0, q0, hargs, rfl, rfl, h0, r0⟩ := trodAll_cons hA
  obtain ⟨v1, vs1, d1, ds1, p1, q1, rfl, rfl, rfl, h1, r1⟩ := trodAll_cons r0
  obtain ⟨rfl, rfl, rfl⟩ := trodAll_nil r1
  obtain rfl : args = #[v0, v1] := by cases args; simp_all
  obtain ⟨rfl, rfl⟩ := trodVars_none hV
  have h0k := h0
  obtain ⟨N, A0, A1, n0, n1, c0, c1, xs, ys, rfl, hN, hx, hy⟩ := opened (hval 0 25 v0 rfl rfl) h0
  obtain ⟨a1, rfl, rfl, rfl, w1⟩ := open_int Try.underlying26 (hval 1 26 v1 rfl rfl) h1
  clear hA0 hval0
  simp only [List.append_nil, List.nil_append] at hW'
  refine (walk N A0 A1 n0 n1 c0 c1 xs ys a1 W hx hy ⟨nn_of_wf w1, hi_of_wf w1⟩).mono fun e W' ⟨he, hg⟩ => ?_
  subst he
  exact ⟨_, rfl, post_below (pa := p0) (pv := []) hW' (fun _ _ _ => (trodAll_cons_mk (shut_bool Try.underlying4 _) trodAll_mk0))
    (fun sp hsp => by
      have t := (trodAll_cons_mk (trod_keeps (sp := sp) (by kernel_rfl) (of_decide_eq_true (by kernel_rfl)) h0k hg (fun x hx => hW'.lt x (by simpa using hx)) (fun x hx => hsp x (by simpa using hx))) (trodAll_cons_mk (shut_int Try.underlying26 w1) trodAll_mk0))
      simp only [List.append_nil, List.nil_append] at t
      exact t) (fun _ _ => rfl) (by simp)
    hg (ok_one (by kernel_rfl) rfl (okWide_bool_mk Try.underlying4 _))⟩

theorem over : Rows.objectThereRow.holds Try.pinned (OpenSpec.ofChange Rows.objectThereSpec) :=
  OpenClaim.holds_of_wide 9 Try.f9 rfl rfl rfl rfl rfl rfl rfl ⟨rfl, rfl, rfl, rfl, rfl⟩ rfl rfl rfl rfl rfl (by kernel_rfl) Try.func9 (by kernel_rfl)
    (of_decide_eq_true (by kernel_rfl)) (by unfold Func.isWrapper; first | (rw [if_pos (by decide +kernel)]; kernel_rfl) | (rw [if_neg (by decide +kernel)]; exact ⟨rfl, rfl⟩))
    (fun os started H enc _ => lifted os started H enc)

theorem proved : Rows.ObjectThereSaid :=
  over
#print axioms proved
end Go.Proofs.Ytmdejmdfohgpoaa.LObjectThere
