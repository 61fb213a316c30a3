/- The statement ObjectTwins is proved for every input, from contracts of the functions that it calls; no condition is added. -/
import Derived.Test.YtmdejmdfohgpoaaOb12
namespace Go.Proofs.Ytmdejmdfohgpoaa.LObjectTwins
open Go.Joins Go.ChangeShapes Go.WideShapes Go.ChangeAt Go.RowKit Go.Deep
set_option linter.unusedVariables false
set_option linter.unusedSimpArgs false

set_option maxRecDepth 100000 in
set_option maxHeartbeats 4000000 in
theorem walk_no (NM : Int) (AM0 AM1 : Option Addr) (nM0 nM1 cM0 cM1 : Nat) (xsM ysM : List Int) (a : Int) (b : Int) (n : Int) (hfew : few NM nM0 nM1 = false) (w : World) :
    Calls Try.prog 4 #[.agg #[.int .i64 NM, .slice AM0 nM0 cM0, .slice AM1 nM1 cM1, .int .u64 a, .int .u64 b, .int .i64 n]] w (fun e w' => e = .returned (.bool true) ∧ Up w w') := by
  have hf := fun w => few_any NM AM0 AM1 nM0 nM1 cM0 cM1 w
  rw [hfew] at hf
  have hf := Lib.hid hf
  clear hfew
  go_enter Try.func4, Try.ntmps4
  go_wp2_with (fail)
  refine (shown_any _).mono ?_
  rintro e w1 ⟨rfl, h1⟩
  have M1 : Blk w1 (w.heap.size + 1) 25 #[.int .i64 NM, .slice AM0 nM0 cM0, .slice AM1 nM1 cM1] := ((Blk.new' _ (by simp) _ _)).up h1
  have U1 : Up w w1 := ((((Up.refl w).alloc _).alloc _)).trans h1
  clear h1
  have M1c := M1.cell
  have M1l := M1.lt
  go_wp2_with (fail)
  refine (hf.out _).mono ?_
  rintro e w2 ⟨rfl, h2⟩
  have M2 := M1.up h2
  have U2 : Up w w2 := U1.trans h2
  clear h2 M1 M1c M1l U1
  have M2c := M2.cell
  have M2l := M2.lt
  go_wp2
  go_ret
  exact ⟨rfl, U2⟩

set_option maxRecDepth 100000 in
set_option maxHeartbeats 8000000 in
theorem walk_yes (m : Me) (P Q : Addr) (c d : Nat) (a : Int) (b : Int) (n : Int) (w : World) (hm : Sits w m P Q c d) (hmn : m.n ≤ 200) (hwf : m.wf) (ha : U64 a) (hb : U64 b) (hn : I64 n)  :
    Calls Try.prog 4 #[.agg #[.int .i64 m.n, .slice (some P) m.n c, .slice (some Q) m.n d, .int .u64 a, .int .u64 b, .int .i64 n]] w (fun e w' => e = .returned (.bool true) ∧ Up w w') := by
  have hfew : few m.n m.n m.n = true := by unfold few rt; simp; have := hm.1.1; omega
  have hf := fun w => few_any m.n (some P) (some Q) m.n m.n c d w
  rw [hfew] at hf
  have hf := Lib.hid hf
  have hok := hm.1
  have HM := Lib.hid hm
  clear hfew hm
  have h1 := Lib.hid (fun (W : World) (hS : Sits W m P Q c d) => show Calls Try.prog 21 #[.agg #[.int .i64 m.n, .slice (some P) m.n c, .slice (some Q) m.n d], .int .u64 a] W (fun e w' => e = .returned (.tuple #[.int .u64 (m.twv a), .int .i64 (m.kne a)]) ∧ Up W w') from twin_any m a P Q c d W hS ha hwf)
  have h2 := Lib.hid (fun (W : World) (hS : Sits W m P Q c d) => show Calls Try.prog 22 #[.agg #[.int .i64 m.n, .slice (some P) m.n c, .slice (some Q) m.n d], .int .u64 a] W (fun e w' => e = .returned (.tuple #[.int .u64 (m.twv a), .int .i64 (m.kne a)]) ∧ Up W w') from rtwin_any m a P Q c d W hS ha hwf)
  have h3 := Lib.hid (fun (W : World) (hS : Sits W m P Q c d) => show Calls Try.prog 23 #[.agg #[.int .i64 m.n, .slice (some P) m.n c, .slice (some Q) m.n d], .int .u64 a, .int .u64 b] W (Gives2 W (m.joinm a b) (.bool (m.joinb a)) (.int .i64 (m.kne a))) from join_any m a b P Q c d W hS ha hwf)
  have h4 := Lib.hid (fun (W : World) (hS : Sits W m P Q c d) => show Calls Try.prog 24 #[.agg #[.int .i64 m.n, .slice (some P) m.n c, .slice (some Q) m.n d], .int .u64 a, .int .u64 b] W (Gives2 W (m.joinm a b) (.bool (m.joinb a)) (.int .i64 (m.kne a))) from rjoin_any m a b P Q c d W hS ha hwf)
  have h5 := Lib.hid (fun (W : World) (hS : Sits W m P Q c d) => show Calls Try.prog 25 #[.agg #[.int .i64 m.n, .slice (some P) m.n c, .slice (some Q) m.n d], .int .u64 a, .int .i64 n] W (Gives1 W (m.fillm a n) (.int .i64 (m.fille a n))) from fill_any m a n P Q c d W hS ha)
  have h6 := Lib.hid (fun (W : World) (hS : Sits W m P Q c d) => show Calls Try.prog 26 #[.agg #[.int .i64 m.n, .slice (some P) m.n c, .slice (some Q) m.n d], .int .u64 a, .int .i64 n] W (Gives1 W (m.fillm a n) (.int .i64 (m.fille a n))) from rfill_any m a n P Q c d W hS ha)
  generalize m.twv a = tv at h1 h2
  generalize m.joinm a b = K at h3 h4
  generalize m.joinb a = jb at h3 h4
  generalize m.kne a = z1 at h1 h2 h3 h4
  generalize m.fillm a n = S at h5 h6
  generalize m.fille a n = z2 at h5 h6
  clear hwf ha hb hn hok
  go_enter Try.func4, Try.ntmps4
  go_wp2_with (fail)
  refine (shown_any _).mono ?_
  rintro e w1 ⟨rfl, h1⟩
  have M1 : Blk w1 (w.heap.size + 1) 25 #[.int .i64 m.n, .slice (some P) m.n c, .slice (some Q) m.n d] := ((Blk.new' _ (by simp) _ _)).up h1
  have U1 : Up w w1 := ((((Up.refl w).alloc _).alloc _)).trans h1
  clear h1
  have M1c := M1.cell
  have M1l := M1.lt
  go_wp2_with (fail)
  refine (hf.out _).mono ?_
  rintro e w2 ⟨rfl, h2⟩
  have M2 := M1.up h2
  have U2 : Up w w2 := U1.trans h2
  clear h2 M1 M1c M1l U1
  have M2c := M2.cell
  have M2l := M2.lt
  go_wp2_with (fail)
  refine (h1.out _ (HM.out.up U2)).mono ?_
  rintro e w3 ⟨rfl, h3⟩
  have M3 := M2.up h3
  have U3 : Up w w3 := U2.trans h3
  clear h3 M2 M2c M2l U2
  have M3c := M3.cell
  have M3l := M3.lt
  go_wp2_with (fail)
  refine (h2.out _ (HM.out.up U3)).mono ?_
  rintro e w4 ⟨rfl, h4⟩
  have M4 := M3.up h4
  have U4 : Up w w4 := U3.trans h4
  clear h4 M3 M3c M3l U3
  have M4c := M4.cell
  have M4l := M4.lt
  go_wp2_with (fail)
  refine (h3.out _ (HM.out.up U4)).mono ?_
  rintro e w5 ⟨PA, QA, cA, dA, rfl, sA5, h5⟩
  have M5 := M4.up h5
  have U5 : Up w w5 := U4.trans h5
  clear h5 M4 M4c M4l U4
  have M5c := M5.cell
  have M5l := M5.lt
  go_wp2_with (fail)
  refine (h4.out _ (HM.out.up (U5.alloc _))).mono ?_
  rintro e w6 ⟨PB, QB, cB, dB, rfl, sB6, h6⟩
  have M6 := (M5.alloc _).up h6
  have A6 := (Blk.new w5 25 #[.int .i64 K.n, .slice (some PA) K.n cA, .slice (some QA) K.n dA]).up h6
  have U6 : Up w w6 := (U5.alloc _).trans h6
  have sA6 := (sA5.up ((Up.refl _).alloc _)).up h6
  clear h6 M5 M5c M5l U5 sA5
  have M6c := M6.cell
  have M6l := M6.lt
  have A6c := A6.cell
  have A6l := A6.lt
  go_wp2_with (fail)
  refine (h5.out _ (HM.out.up (U6.alloc _))).mono ?_
  rintro e w7 ⟨PC, QC, cC, dC, rfl, sC7, h7⟩
  have M7 := (M6.alloc _).up h7
  have A7 := (A6.alloc _).up h7
  have B7 := (Blk.new w6 25 #[.int .i64 K.n, .slice (some PB) K.n cB, .slice (some QB) K.n dB]).up h7
  have U7 : Up w w7 := (U6.alloc _).trans h7
  have sA7 := (sA6.up ((Up.refl _).alloc _)).up h7
  have sB7 := (sB6.up ((Up.refl _).alloc _)).up h7
  clear h7 M6 M6c M6l A6 A6c A6l U6 sA6 sB6
  have M7c := M7.cell
  have M7l := M7.lt
  have A7c := A7.cell
  have A7l := A7.lt
  have B7c := B7.cell
  have B7l := B7.lt
  go_wp2_with (fail)
  refine (h6.out _ (HM.out.up (U7.alloc _))).mono ?_
  rintro e w8 ⟨PD, QD, cD, dD, rfl, sD8, h8⟩
  have M8 := (M7.alloc _).up h8
  have A8 := (A7.alloc _).up h8
  have B8 := (B7.alloc _).up h8
  have C8 := (Blk.new w7 25 #[.int .i64 S.n, .slice (some PC) S.n cC, .slice (some QC) S.n dC]).up h8
  have U8 : Up w w8 := (U7.alloc _).trans h8
  have sA8 := (sA7.up ((Up.refl _).alloc _)).up h8
  have sB8 := (sB7.up ((Up.refl _).alloc _)).up h8
  have sC8 := (sC7.up ((Up.refl _).alloc _)).up h8
  clear h8 M7 M7c M7l A7 A7c A7l B7 B7c B7l U7 sA7 sB7 sC7
  have M8c := M8.cell
  have M8l := M8.lt
  have A8c := A8.cell
  have A8l := A8.lt
  have B8c := B8.cell
  have B8l := B8.lt
  have C8c := C8.cell
  have C8l := C8.lt
  go_wp2_with (fail)
  refine (rsame_self _ _ _ _ _ _ _ _ _ _ (sA8.up ((Up.refl _).alloc _)) (sB8.up ((Up.refl _).alloc _))).mono ?_
  rintro e w9 ⟨rfl, h9⟩
  have M9 := (M8.alloc _).up h9
  have A9 := (A8.alloc _).up h9
  have B9 := (B8.alloc _).up h9
  have C9 := (C8.alloc _).up h9
  have D9 := (Blk.new w8 25 #[.int .i64 S.n, .slice (some PD) S.n cD, .slice (some QD) S.n dD]).up h9
  have U9 : Up w w9 := (U8.alloc _).trans h9
  have sA9 := (sA8.up ((Up.refl _).alloc _)).up h9
  have sB9 := (sB8.up ((Up.refl _).alloc _)).up h9
  have sC9 := (sC8.up ((Up.refl _).alloc _)).up h9
  have sD9 := (sD8.up ((Up.refl _).alloc _)).up h9
  clear h9 M8 M8c M8l A8 A8c A8l B8 B8c B8l C8 C8c C8l U8 sA8 sB8 sC8 sD8
  have M9c := M9.cell
  have M9l := M9.lt
  have A9c := A9.cell
  have A9l := A9.lt
  have B9c := B9.cell
  have B9l := B9.lt
  have C9c := C9.cell
  have C9l := C9.lt
  have D9c := D9.cell
  have D9l := D9.lt
  go_wp2_with (fail)
  refine (rsame_self _ _ _ _ _ _ _ _ _ _ sC9 sD9).mono ?_
  rintro e w10 ⟨rfl, h10⟩
  have M10 := M9.up h10
  have A10 := A9.up h10
  have B10 := B9.up h10
  have C10 := C9.up h10
  have D10 := D9.up h10
  have U10 : Up w w10 := U9.trans h10
  have sA10 := sA9.up h10
  have sB10 := sB9.up h10
  have sC10 := sC9.up h10
  have sD10 := sD9.up h10
  clear h10 M9 M9c M9l A9 A9c A9l B9 B9c B9l C9 C9c C9l D9 D9c D9l U9 sA9 sB9 sC9 sD9
  have M10c := M10.cell
  have M10l := M10.lt
  have A10c := A10.cell
  have A10l := A10.lt
  have B10c := B10.cell
  have B10l := B10.lt
  have C10c := C10.cell
  have C10l := C10.lt
  have D10c := D10.cell
  have D10l := D10.lt
  go_wp2
  go_ret
  exact ⟨rfl, U10⟩

theorem walk (NM : Int) (AM0 AM1 : Option Addr) (nM0 nM1 cM0 cM1 : Nat) (xsM ysM : List Int) (a : Int) (b : Int) (n : Int) (w : World) (hxM : SlOk w AM0 nM0 cM0 xsM) (hyM : SlOk w AM1 nM1 cM1 ysM) (ha : U64 a) (hb : U64 b) (hn : I64 n) :
    Calls Try.prog 4 #[.agg #[.int .i64 NM, .slice AM0 nM0 cM0, .slice AM1 nM1 cM1, .int .u64 a, .int .u64 b, .int .i64 n]] w (fun e w' => e = .returned (.bool true) ∧ Up w w') := by
  cases hfew : few NM nM0 nM1
  · exact walk_no NM AM0 AM1 nM0 nM1 cM0 cM1 xsM ysM a b n hfew w
  · obtain ⟨rfl, rfl, h16, h200⟩ := few_is hfew
    obtain ⟨P, Q, rfl, rfl, hm⟩ := sits_of hxM hyM h16 (by omega)
    have hwf := sits_wf hxM hyM
    exact walk_yes ⟨nM0, xsM, ysM⟩ P Q cM0 cM1 a b n w hm h200 hwf ha hb hn
theorem cells : Try.prog.cellsOf 51 = 6 := by kernel_rfl
set_option maxRecDepth 100000 in
theorem opened {H : Type} {enc : TypeId × Value → H} {w : World} {r : Reach} {b0 : Nat} {vl_ : Value} {d : DataW H} {p : List MemPlace} (hvl_ : Value.okWide Try.prog w r b0 51 vl_) (h_ : DataW.Trod enc Try.prog w 0 (fun _ => true) true 51 vl_ d p) :
    ∃ (NM : Int) (AM0 AM1 : Option Addr) (nM0 nM1 cM0 cM1 : Nat) (xsM ysM : List Int) (a : Int) (b : Int) (n : Int), vl_ = .agg #[.int .i64 NM, .slice AM0 nM0 cM0, .slice AM1 nM1 cM1, .int .u64 a, .int .u64 b, .int .i64 n] ∧ I64 NM ∧ SlOk w AM0 nM0 cM0 xsM ∧ SlOk w AM1 nM1 cM1 ysM ∧ U64 a ∧ U64 b ∧ I64 n := by
  obtain ⟨⟨l⟩, rfl, hsz⟩ := okWide_struct Try.underlying51 hvl_
  match l, hsz.trans cells with
  | [z0_, z1_, z2_, z3_, z4_, z5_], _ =>
    obtain ⟨fuel, hf_⟩ := h_
    obtain ⟨ys_, n_, _, _, _, hlen_, hg_⟩ := DataW.trod_struct Try.underlying51 hf_
    have f0_ := hg_ 0 _ rfl
    have f1_ := hg_ 1 _ rfl
    have f2_ := hg_ 2 _ rfl
    have f3_ := hg_ 3 _ rfl
    match ys_, hlen_ with
    | [y0_, y1_, y2_, y3_], _ =>
      change DataW.trod enc Try.prog w 0 (fun _ => true) true n_ 25 (([z0_, z1_, z2_, z3_, z4_, z5_].drop 0).take (Try.prog.cellsOf 25)) = some y0_ at f0_
      rw [cells_mem] at f0_
      change DataW.trod enc Try.prog w 0 (fun _ => true) true n_ 26 (([z0_, z1_, z2_, z3_, z4_, z5_].drop 3).take (Try.prog.cellsOf 26)) = some y1_ at f1_
      rw [cells_u64] at f1_
      change DataW.trod enc Try.prog w 0 (fun _ => true) true n_ 26 (([z0_, z1_, z2_, z3_, z4_, z5_].drop 4).take (Try.prog.cellsOf 26)) = some y2_ at f2_
      rw [cells_u64] at f2_
      change DataW.trod enc Try.prog w 0 (fun _ => true) true n_ 3 (([z0_, z1_, z2_, z3_, z4_, z5_].drop 5).take (Try.prog.cellsOf 3)) = some y3_ at f3_
      rw [cells_int] at f3_
      obtain ⟨NM, AM0, AM1, nM0, nM1, cM0, cM1, xsM, ysM, rfl, rfl, rfl, hNM, hxM, hyM⟩ := mem_open (v0 := z0_) (v1 := z1_) (v2 := z2_) f0_
      obtain ⟨a, rfl, ha⟩ := u64_open (v := z3_) f1_
      obtain ⟨b, rfl, hb⟩ := u64_open (v := z4_) f2_
      obtain ⟨n, rfl, hn⟩ := int_open (v := z5_) f3_
      exact ⟨NM, AM0, AM1, nM0, nM1, cM0, cM1, xsM, ysM, a, b, n, rfl, hNM, hxM, hyM, ha, hb, hn⟩

theorem own : ownKnob Try.prog.godebug = none := by kernel_rfl
set_option maxRecDepth 100000 in
theorem lifted (os : Os) (started : os.Started) (H : Type) (enc : TypeId × Value → H) :
    ReturnsInHanded {} Try.checked os 4 .any (Rows.objectTwinsSpec.pre6 enc Try.prog Try.f4 Rows.objectTwinsRow.domain false) (Rows.objectTwinsSpec.post enc Try.prog Try.f4 false true false false) := by
  refine returnsInHanded_of_change (C := Try.checked) own started (by kernel_rfl) Try.func4
    (ChangeSpec.witness6 (enc := enc) (C := Try.checked) false ⟨#[], #[.agg #[.int .i64 0, .slice none 0 0, .slice none 0 0, .int .u64 0, .int .u64 0, .int .i64 0]], []⟩ 8 (by kernel_rfl) (by kernel_rfl) (by kernel_rfl) (by kernel_rfl)) ?_
  intro W base args ds gs before hval0 hW hcnd _
  have hval : ∀ (j : Nat) t v, Try.f4.params[j]? = some t → args[j]? = some v → Value.okWide Try.prog W .any base t v := hval0
  have hW' := hW
  obtain ⟨p, q, hA0, hV, rfl, hfz, hnd⟩ := hW
  have hA : DataW.TrodAll enc Try.prog W 0 (fun _ => true) true Try.f4.params.toList args.toList ds p := hA0
  rw [Try.params4] at hA hval
  obtain ⟨v0, vs0, d0, ds0, p0, q0, hargs, rfl, rfl, h0, r0⟩ := trodAll_cons hA
  obtain ⟨rfl, rfl, rfl⟩ := trodAll_nil r0
  obtain rfl : args = #[v0] := by cases args; simp_all
  obtain ⟨rfl, rfl⟩ := trodVars_none hV
  have h0k := h0
  obtain ⟨NM, AM0, AM1, nM0, nM1, cM0, cM1, xsM, ysM, a, b, n, rfl, hNM, hxM, hyM, ha, hb, hn⟩ := opened (hval 0 51 v0 rfl rfl) h0
  clear hA0 hval0
  simp only [List.append_nil] at hW'
  refine (walk NM AM0 AM1 nM0 nM1 cM0 cM1 xsM ysM a b n W hxM hyM ha hb hn).mono fun e W' ⟨he, hg⟩ => ?_
  subst he
  exact ⟨_, rfl, post_below (pa := p0) (pv := []) hW' (fun _ _ _ => (trodAll_cons_mk (shut_bool Try.underlying4 _) trodAll_mk0))
    (fun sp hsp => by
      have t := trodAll_cons_mk (trod_keeps (sp := sp) (by kernel_rfl) (of_decide_eq_true (by kernel_rfl)) h0k hg (fun x hx => hW'.lt x hx) (fun x hx => hsp x hx)) trodAll_mk0
      rw [List.append_nil] at t
      exact t) (fun _ _ => rfl) (by simp)
    hg (ok_one (by kernel_rfl) rfl (okWide_bool_mk Try.underlying4 _))⟩

set_option maxRecDepth 100000 in
theorem over : Rows.objectTwinsRow.holds Try.pinned (OpenSpec.ofChange Rows.objectTwinsSpec) :=
  OpenClaim.holds_of_wide 4 Try.f4 rfl rfl rfl rfl rfl rfl rfl ⟨rfl, rfl, rfl, rfl, rfl⟩ rfl rfl rfl rfl rfl (by kernel_rfl) Try.func4 (by kernel_rfl)
    (of_decide_eq_true (by kernel_rfl)) (by unfold Func.isWrapper; first | (rw [if_pos (by decide +kernel)]; kernel_rfl) | (rw [if_neg (by decide +kernel)]; exact ⟨rfl, rfl⟩))
    (fun os started H enc _ => lifted os started H enc)

theorem proved : Rows.ObjectTwinsSaid :=
  over
#print axioms proved
end Go.Proofs.Ytmdejmdfohgpoaa.LObjectTwins
