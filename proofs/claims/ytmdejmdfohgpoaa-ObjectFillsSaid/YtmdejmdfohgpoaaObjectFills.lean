/- The statement ObjectFills is proved for every input, from contracts of the functions that it calls; no condition is added. -/
import Derived.Test.YtmdejmdfohgpoaaOb12
namespace Go.Proofs.Ytmdejmdfohgpoaa.LObjectFills
open Go.Joins Go.ChangeShapes Go.WideShapes Go.ChangeAt Go.RowKit Go.Deep
set_option linter.unusedVariables false
set_option linter.unusedSimpArgs false

set_option maxRecDepth 100000 in
set_option maxHeartbeats 4000000 in
theorem walk_no (NM : Int) (AM0 AM1 : Option Addr) (nM0 nM1 cM0 cM1 : Nat) (xsM ysM : List Int) (a : Int) (n : Int) (i : Int) (hfew : few NM nM0 nM1 = false) (w : World) :
    Calls Try.prog 7 #[.agg #[.int .i64 NM, .slice AM0 nM0 cM0, .slice AM1 nM1 cM1, .int .u64 a, .int .i64 n, .int .i64 i]] w (fun e w' => e = .returned (.bool true) ∧ Up w w') := by
  have hf := fun w => few_any NM AM0 AM1 nM0 nM1 cM0 cM1 w
  rw [hfew] at hf
  have hf := Lib.hid hf
  clear hfew
  go_enter Try.func7, Try.ntmps7
  go_wp2_with (fail)
  refine (shown_any _).mono ?_
  rintro e w1 ⟨rfl, h1⟩
  have M1 : Blk w1 (w.heap.size + 1) 25 #[.int .i64 NM, .slice AM0 nM0 cM0, .slice AM1 nM1 cM1] := ((Blk.new' _ (by simp) _ _)).up h1
  have U1 : Up w w1 := ((((Up.refl w).alloc _).alloc _)).trans h1
  clear h1
  have M1c := M1.cell
  have M1l := M1.lt
  go_wp2_with (fail)
  refine (hf.out _).mono ?_
  rintro e w2 ⟨rfl, h2⟩
  have M2 := M1.up h2
  have U2 : Up w w2 := U1.trans h2
  clear h2 M1 M1c M1l U1
  have M2c := M2.cell
  have M2l := M2.lt
  go_wp2
  go_ret
  exact ⟨rfl, U2⟩

set_option maxRecDepth 100000 in
set_option maxHeartbeats 8000000 in
theorem walk_no2 (m : Me) (P Q : Addr) (c d : Nat) (a : Int) (n : Int) (i : Int) (w : World) (hm : Sits w m P Q c d) (hmn : m.n ≤ 200) (hwf : m.wf) (ha : U64 a) (hn : I64 n) (hi : I64 i) (hp : m.fille a n ≠ 0) (hq : m.fillm a n = m) :
    Calls Try.prog 7 #[.agg #[.int .i64 m.n, .slice (some P) m.n c, .slice (some Q) m.n d, .int .u64 a, .int .i64 n, .int .i64 i]] w (fun e w' => e = .returned (.bool true) ∧ Up w w') := by
  have hfew : few m.n m.n m.n = true := by unfold few rt; simp; have := hm.1.1; omega
  have hf := fun w => few_any m.n (some P) (some Q) m.n m.n c d w
  rw [hfew] at hf
  have hf := Lib.hid hf
  have hok := hm.1
  have HM := Lib.hid hm
  clear hfew hm
  have h1 := fun (W : World) (hS : Sits W m P Q c d) => fill_any m a n P Q c d W hS ha
  rw [hq] at h1
  have h1 := Lib.hid h1
  have hb : (m.fille a n != 0) = true := bne_iff_ne.mpr hp
  generalize m.fille a n = z at h1 hb
  clear hwf ha hi hn hmn hok hp hq
  go_enter Try.func7, Try.ntmps7
  go_wp2_with (fail)
  refine (shown_any _).mono ?_
  rintro e w1 ⟨rfl, h1⟩
  have M1 : Blk w1 (w.heap.size + 1) 25 #[.int .i64 m.n, .slice (some P) m.n c, .slice (some Q) m.n d] := ((Blk.new' _ (by simp) _ _)).up h1
  have U1 : Up w w1 := ((((Up.refl w).alloc _).alloc _)).trans h1
  clear h1
  have M1c := M1.cell
  have M1l := M1.lt
  go_wp2_with (fail)
  refine (hf.out _).mono ?_
  rintro e w2 ⟨rfl, h2⟩
  have M2 := M1.up h2
  have U2 : Up w w2 := U1.trans h2
  clear h2 M1 M1c M1l U1
  have M2c := M2.cell
  have M2l := M2.lt
  go_wp2_with (fail)
  refine (h1.out _ (HM.out.up U2)).mono ?_
  rintro e w3 ⟨PA, QA, cA, dA, rfl, sA3, h3⟩
  have M3 := M2.up h3
  have U3 : Up w w3 := U2.trans h3
  clear h3 M2 M2c M2l U2
  have M3c := M3.cell
  have M3l := M3.lt
  go_wp2_with (fail)
  refine (rsame_self _ _ _ _ _ _ _ _ _ _ (sA3.up ((Up.refl _).alloc _)) (HM.out.up (U3.alloc _))).mono ?_
  rintro e w4 ⟨rfl, h4⟩
  have M4 := (M3.alloc _).up h4
  have A4 := (Blk.new w3 25 #[.int .i64 m.n, .slice (some PA) m.n cA, .slice (some QA) m.n dA]).up h4
  have U4 : Up w w4 := (U3.alloc _).trans h4
  have sA4 := (sA3.up ((Up.refl _).alloc _)).up h4
  clear h4 M3 M3c M3l U3 sA3
  have M4c := M4.cell
  have M4l := M4.lt
  have A4c := A4.cell
  have A4l := A4.lt
  go_wp2
  go_ret
  exact ⟨rfl, U4⟩

set_option maxRecDepth 100000 in
set_option maxHeartbeats 8000000 in
theorem walk_ok (m : Me) (P Q : Addr) (c d : Nat) (a : Int) (n : Int) (i : Int) (w : World) (hm : Sits w m P Q c d) (hmn : m.n ≤ 200) (hwf : m.wf) (ha : U64 a) (hn : I64 n) (hi : I64 i) (hp : m.pok a 255 (n - 1) 0) (hb : flb n = true) :
    Calls Try.prog 7 #[.agg #[.int .i64 m.n, .slice (some P) m.n c, .slice (some Q) m.n d, .int .u64 a, .int .i64 n, .int .i64 i]] w (fun e w' => e = .returned (.bool true) ∧ Up w w') := by
  have hfew : few m.n m.n m.n = true := by unfold few rt; simp; have := hm.1.1; omega
  have hf := fun w => few_any m.n (some P) (some Q) m.n m.n c d w
  rw [hfew] at hf
  have hf := Lib.hid hf
  have hok := hm.1
  have HM := Lib.hid hm
  clear hfew hm
  have hKw := put_wf (m := m) (a := a) (t := 255) (l := n - 1) (Int.le_refl 0) hwf
  obtain ⟨k1, k2, k3, k4⟩ := put_at hok (Int.le_refl 0) hp
  have k5 := put_kne hok (Int.le_refl 0) hp
  have h1 := fun (W : World) (hS : Sits W m P Q c d) => fill_any m a n P Q c d W hS ha
  rw [show m.fillm a n = m.putm a 255 (n - 1) 0 from if_pos hb, show m.fille a n = 0 from (if_pos hb).trans (pute_0.2 hp)] at h1
  have h1 := Lib.hid h1
  generalize m.putm a 255 (n - 1) 0 = K at hKw k1 k2 k3 k4 k5 h1
  rw [show unl ((255 : Int) != 255) 8 = 8 from rfl] at k5
  have kn : ¬ K.fok a i := fun q => by have := q.1; rw [k5] at this; cases this
  have h5 := fun w => rhwords_any 255 (n - 1) 0 (Int.le_refl 0) hp.1 w
  rw [show wdn 255 (n - 1) = n from (if_pos rfl).trans (by omega)] at h5
  have h5 := Lib.hid h5
  have h2 := Lib.hid (fun (W : World) (P Q : Addr) (c d : Nat) (hS : Sits W K P Q c d) => show Calls Try.prog 14 #[.agg #[.int .i64 K.n, .slice (some P) K.n c, .slice (some Q) K.n d], .int .u64 a] W (fun e w' => e = .returned (.tuple #[hdv 255 (n - 1) 0, .int .i64 0]) ∧ Up W w') from by
    have h := at_any K a P Q c d W hS ha hKw
    rw [k2, k3, k4, ate_0.2 k1] at h
    exact h)
  have h3 := Lib.hid (fun (W : World) (P Q : Addr) (c d : Nat) (hS : Sits W K P Q c d) => show Calls Try.prog 21 #[.agg #[.int .i64 K.n, .slice (some P) K.n c, .slice (some Q) K.n d], .int .u64 a] W (fun e w' => e = .returned (.tuple #[.int .u64 0, .int .i64 8]) ∧ Up W w') from by
    have h := twin_any K a P Q c d W hS ha hKw
    rw [show K.twv a = 0 from if_neg (by rw [k5]; decide), k5] at h
    exact h)
  have h4 := Lib.hid (fun (W : World) (P Q : Addr) (c d : Nat) (hS : Sits W K P Q c d) => show Calls Try.prog 16 #[.agg #[.int .i64 K.n, .slice (some P) K.n c, .slice (some Q) K.n d], .int .u64 a, .int .i64 i] W (fun e w' => e = .returned (.tuple #[.int .u64 0, .bool false, .int .i64 8]) ∧ Up W w') from by
    have h := get_any K a i P Q c d W hS ha hKw
    rw [show K.getv a i = 0 from if_neg kn, show K.getb a i = false from if_neg kn, show K.gete a i = 8 from (if_neg (by rw [k5]; decide)).trans k5] at h
    exact h)
  clear hwf ha hi hn hmn hok hp hb hKw k1 k2 k3 k4 k5 kn
  generalize n - 1 = l at h2 h5
  go_enter Try.func7, Try.ntmps7
  go_wp2_with (fail)
  refine (shown_any _).mono ?_
  rintro e w1 ⟨rfl, h1⟩
  have M1 : Blk w1 (w.heap.size + 1) 25 #[.int .i64 m.n, .slice (some P) m.n c, .slice (some Q) m.n d] := ((Blk.new' _ (by simp) _ _)).up h1
  have U1 : Up w w1 := ((((Up.refl w).alloc _).alloc _)).trans h1
  clear h1
  have M1c := M1.cell
  have M1l := M1.lt
  go_wp2_with (fail)
  refine (hf.out _).mono ?_
  rintro e w2 ⟨rfl, h2⟩
  have M2 := M1.up h2
  have U2 : Up w w2 := U1.trans h2
  clear h2 M1 M1c M1l U1
  have M2c := M2.cell
  have M2l := M2.lt
  go_wp2_with (fail)
  refine (h1.out _ (HM.out.up U2)).mono ?_
  rintro e w3 ⟨PA, QA, cA, dA, rfl, sA3, h3⟩
  have M3 := M2.up h3
  have U3 : Up w w3 := U2.trans h3
  clear h3 M2 M2c M2l U2
  have M3c := M3.cell
  have M3l := M3.lt
  go_wp2_with (fail)
  refine (h2.out _ _ _ _ _ (sA3.up ((Up.refl _).alloc _))).mono ?_
  rintro e w4 ⟨rfl, h4⟩
  have M4 := (M3.alloc _).up h4
  have A4 := (Blk.new w3 25 #[.int .i64 K.n, .slice (some PA) K.n cA, .slice (some QA) K.n dA]).up h4
  have U4 : Up w w4 := (U3.alloc _).trans h4
  have sA4 := (sA3.up ((Up.refl _).alloc _)).up h4
  clear h4 M3 M3c M3l U3 sA3
  have M4c := M4.cell
  have M4l := M4.lt
  have A4c := A4.cell
  have A4l := A4.lt
  go_wp2_with (fail)
  refine (h4.out _ _ _ _ _ (sA4.up ((Up.refl _).alloc _))).mono ?_
  rintro e w5 ⟨rfl, h5⟩
  have M5 := (M4.alloc _).up h5
  have A5 := (A4.alloc _).up h5
  have X5 := (Blk.new w4 28 #[.int .i64 255, .int .i64 l, .int .u64 0]).up h5
  have U5 : Up w w5 := (U4.alloc _).trans h5
  have sA5 := (sA4.up ((Up.refl _).alloc _)).up h5
  clear h5 M4 M4c M4l A4 A4c A4l U4 sA4
  have M5c := M5.cell
  have M5l := M5.lt
  have A5c := A5.cell
  have A5l := A5.lt
  have X5c := X5.cell
  have X5l := X5.lt
  go_wp2_with (fail)
  refine (h3.out _ _ _ _ _ sA5).mono ?_
  rintro e w6 ⟨rfl, h6⟩
  have M6 := M5.up h6
  have A6 := A5.up h6
  have X6 := X5.up h6
  have U6 : Up w w6 := U5.trans h6
  have sA6 := sA5.up h6
  clear h6 M5 M5c M5l A5 A5c A5l X5 X5c X5l U5 sA5
  have M6c := M6.cell
  have M6l := M6.lt
  have A6c := A6.cell
  have A6l := A6.lt
  have X6c := X6.cell
  have X6l := X6.lt
  go_wp2_with (fail)
  refine (h5.out _).mono ?_
  rintro e w7 ⟨rfl, h7⟩
  have M7 := M6.up h7
  have A7 := A6.up h7
  have X7 := X6.up h7
  have U7 : Up w w7 := U6.trans h7
  have sA7 := sA6.up h7
  clear h7 M6 M6c M6l A6 A6c A6l X6 X6c X6l U6 sA6
  have M7c := M7.cell
  have M7l := M7.lt
  have A7c := A7.cell
  have A7l := A7.lt
  have X7c := X7.cell
  have X7l := X7.lt
  go_wp2
  go_ret
  exact ⟨rfl, U7⟩

theorem walk (NM : Int) (AM0 AM1 : Option Addr) (nM0 nM1 cM0 cM1 : Nat) (xsM ysM : List Int) (a : Int) (n : Int) (i : Int) (w : World) (hxM : SlOk w AM0 nM0 cM0 xsM) (hyM : SlOk w AM1 nM1 cM1 ysM) (ha : U64 a) (hn : I64 n) (hi : I64 i) :
    Calls Try.prog 7 #[.agg #[.int .i64 NM, .slice AM0 nM0 cM0, .slice AM1 nM1 cM1, .int .u64 a, .int .i64 n, .int .i64 i]] w (fun e w' => e = .returned (.bool true) ∧ Up w w') := by
  cases hfew : few NM nM0 nM1
  · exact walk_no NM AM0 AM1 nM0 nM1 cM0 cM1 xsM ysM a n i hfew w
  · obtain ⟨rfl, rfl, h16, h200⟩ := few_is hfew
    obtain ⟨P, Q, rfl, rfl, hm⟩ := sits_of hxM hyM h16 (by omega)
    have hwf := sits_wf hxM hyM
    by_cases hb : flb n = true
    · by_cases hp : (⟨nM0, xsM, ysM⟩ : Me).pok a 255 (n - 1) 0
      · exact walk_ok ⟨nM0, xsM, ysM⟩ P Q cM0 cM1 a n i w hm h200 hwf ha hn hi hp hb
      · exact walk_no2 ⟨nM0, xsM, ysM⟩ P Q cM0 cM1 a n i w hm h200 hwf ha hn hi (fun q => hp (pute_0.1 ((if_pos hb).symm.trans q))) ((if_pos hb).trans (if_neg hp))
    · exact walk_no2 ⟨nM0, xsM, ysM⟩ P Q cM0 cM1 a n i w hm h200 hwf ha hn hi (fun q => by rw [show Me.fille ⟨nM0, xsM, ysM⟩ a n = 1 from if_neg hb] at q; cases q) (if_neg hb)
theorem cells : Try.prog.cellsOf 71 = 6 := by kernel_rfl
set_option maxRecDepth 100000 in
theorem opened {H : Type} {enc : TypeId × Value → H} {w : World} {r : Reach} {b0 : Nat} {vl_ : Value} {d : DataW H} {p : List MemPlace} (hvl_ : Value.okWide Try.prog w r b0 71 vl_) (h_ : DataW.Trod enc Try.prog w 0 (fun _ => true) true 71 vl_ d p) :
    ∃ (NM : Int) (AM0 AM1 : Option Addr) (nM0 nM1 cM0 cM1 : Nat) (xsM ysM : List Int) (a : Int) (n : Int) (i : Int), vl_ = .agg #[.int .i64 NM, .slice AM0 nM0 cM0, .slice AM1 nM1 cM1, .int .u64 a, .int .i64 n, .int .i64 i] ∧ I64 NM ∧ SlOk w AM0 nM0 cM0 xsM ∧ SlOk w AM1 nM1 cM1 ysM ∧ U64 a ∧ I64 n ∧ I64 i := by
  obtain ⟨⟨l⟩, rfl, hsz⟩ := okWide_struct Try.underlying71 hvl_
  match l, hsz.trans cells with
  | [z0_, z1_, z2_, z3_, z4_, z5_], _ =>
    obtain ⟨fuel, hf_⟩ := h_
    obtain ⟨ys_, n_, _, _, _, hlen_, hg_⟩ := DataW.trod_struct Try.underlying71 hf_
    have f0_ := hg_ 0 _ rfl
    have f1_ := hg_ 1 _ rfl
    have f2_ := hg_ 2 _ rfl
    have f3_ := hg_ 3 _ rfl
    match ys_, hlen_ with
    | [y0_, y1_, y2_, y3_], _ =>
      change DataW.trod enc Try.prog w 0 (fun _ => true) true n_ 25 (([z0_, z1_, z2_, z3_, z4_, z5_].drop 0).take (Try.prog.cellsOf 25)) = some y0_ at f0_
      rw [cells_mem] at f0_
      change DataW.trod enc Try.prog w 0 (fun _ => true) true n_ 26 (([z0_, z1_, z2_, z3_, z4_, z5_].drop 3).take (Try.prog.cellsOf 26)) = some y1_ at f1_
      rw [cells_u64] at f1_
      change DataW.trod enc Try.prog w 0 (fun _ => true) true n_ 3 (([z0_, z1_, z2_, z3_, z4_, z5_].drop 4).take (Try.prog.cellsOf 3)) = some y2_ at f2_
      rw [cells_int] at f2_
      change DataW.trod enc Try.prog w 0 (fun _ => true) true n_ 3 (([z0_, z1_, z2_, z3_, z4_, z5_].drop 5).take (Try.prog.cellsOf 3)) = some y3_ at f3_
      rw [cells_int] at f3_
      obtain ⟨NM, AM0, AM1, nM0, nM1, cM0, cM1, xsM, ysM, rfl, rfl, rfl, hNM, hxM, hyM⟩ := mem_open (v0 := z0_) (v1 := z1_) (v2 := z2_) f0_
      obtain ⟨a, rfl, ha⟩ := u64_open (v := z3_) f1_
      obtain ⟨n, rfl, hn⟩ := int_open (v := z4_) f2_
      obtain ⟨i, rfl, hi⟩ := int_open (v := z5_) f3_
      exact ⟨NM, AM0, AM1, nM0, nM1, cM0, cM1, xsM, ysM, a, n, i, rfl, hNM, hxM, hyM, ha, hn, hi⟩

theorem own : ownKnob Try.prog.godebug = none := by kernel_rfl
set_option maxRecDepth 100000 in
theorem lifted (os : Os) (started : os.Started) (H : Type) (enc : TypeId × Value → H) :
    ReturnsInHanded {} Try.checked os 7 .any (Rows.objectFillsSpec.pre6 enc Try.prog Try.f7 Rows.objectFillsRow.domain false) (Rows.objectFillsSpec.post enc Try.prog Try.f7 false true false false) := by
  refine returnsInHanded_of_change (C := Try.checked) own started (by kernel_rfl) Try.func7
    (ChangeSpec.witness6 (enc := enc) (C := Try.checked) false ⟨#[], #[.agg #[.int .i64 0, .slice none 0 0, .slice none 0 0, .int .u64 0, .int .i64 0, .int .i64 0]], []⟩ 8 (by kernel_rfl) (by kernel_rfl) (by kernel_rfl) (by kernel_rfl)) ?_
  intro W base args ds gs before hval0 hW hcnd _
  have hval : ∀ (j : Nat) t v, Try.f7.params[j]? = some t → args[j]? = some v → Value.okWide Try.prog W .any base t v := hval0
  have hW' := hW
  obtain ⟨p, q, hA0, hV, rfl, hfz, hnd⟩ := hW
  have hA : DataW.TrodAll enc Try.prog W 0 (fun _ => true) true Try.f7.params.toList args.toList ds p := hA0
  rw [Try.params7] at hA hval
  obtain ⟨v0, vs0, d0, ds0, p0, q0, hargs, rfl, rfl, h0, r0⟩ := trodAll_cons hA
  obtain ⟨rfl, rfl, rfl⟩ := trodAll_nil r0
  obtain rfl : args = #[v0] := by cases args; simp_all
  obtain ⟨rfl, rfl⟩ := trodVars_none hV
  have h0k := h0
  obtain ⟨NM, AM0, AM1, nM0, nM1, cM0, cM1, xsM, ysM, a, n, i, rfl, hNM, hxM, hyM, ha, hn, hi⟩ := opened (hval 0 71 v0 rfl rfl) h0
  clear hA0 hval0
  simp only [List.append_nil] at hW'
  refine (walk NM AM0 AM1 nM0 nM1 cM0 cM1 xsM ysM a n i W hxM hyM ha hn hi).mono fun e W' ⟨he, hg⟩ => ?_
  subst he
  exact ⟨_, rfl, post_below (pa := p0) (pv := []) hW' (fun _ _ _ => (trodAll_cons_mk (shut_bool Try.underlying4 _) trodAll_mk0))
    (fun sp hsp => by
      have t := trodAll_cons_mk (trod_keeps (sp := sp) (by kernel_rfl) (of_decide_eq_true (by kernel_rfl)) h0k hg (fun x hx => hW'.lt x hx) (fun x hx => hsp x hx)) trodAll_mk0
      rw [List.append_nil] at t
      exact t) (fun _ _ => rfl) (by simp)
    hg (ok_one (by kernel_rfl) rfl (okWide_bool_mk Try.underlying4 _))⟩

set_option maxRecDepth 100000 in
theorem over : Rows.objectFillsRow.holds Try.pinned (OpenSpec.ofChange Rows.objectFillsSpec) :=
  OpenClaim.holds_of_wide 7 Try.f7 rfl rfl rfl rfl rfl rfl rfl ⟨rfl, rfl, rfl, rfl, rfl⟩ rfl rfl rfl rfl rfl (by kernel_rfl) Try.func7 (by kernel_rfl)
    (of_decide_eq_true (by kernel_rfl)) (by unfold Func.isWrapper; first | (rw [if_pos (by decide +kernel)]; kernel_rfl) | (rw [if_neg (by decide +kernel)]; exact ⟨rfl, rfl⟩))
    (fun os started H enc _ => lifted os started H enc)

theorem proved : Rows.ObjectFillsSaid :=
  over
#print axioms proved
end Go.Proofs.Ytmdejmdfohgpoaa.LObjectFills
