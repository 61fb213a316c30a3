/- The statement WalkEnds is proved for every input, from contracts of the functions that it calls; no condition is added. -/
import Derived.Test.YtmjadmoadedghaaWk12
namespace Go.Proofs.Ytmjadmoadedghaa.LWalkEnds
open Go.Joins Go.ChangeShapes Go.WideShapes Go.ChangeAt Go.RowKit Go.Deep
set_option linter.unusedVariables false
set_option linter.unusedSimpArgs false

set_option maxRecDepth 100000 in
set_option maxHeartbeats 4000000 in
theorem walk_no (NM : Int) (AM0 AM1 : Option Addr) (nM0 nM1 cM0 cM1 : Nat) (xsM ysM : List Int) (s : Int) (a : Int) (b : Int) (hfew : few NM nM0 nM1 = false) (w : World) :
    Calls Try.prog 6 #[.agg #[.int .i64 NM, .slice AM0 nM0 cM0, .slice AM1 nM1 cM1, .int .i64 s, .int .i64 a, .int .i64 b]] w (fun e w' => e = .returned (.bool true) ∧ Up w w') := by
  have hf := fun w => few_any NM AM0 AM1 nM0 nM1 cM0 cM1 w
  rw [hfew] at hf
  have hf := Lib.hid hf
  clear hfew
  go_enter Try.func6, Try.ntmps6
  go_wp2_with (fail)
  refine (shown_any _).mono ?_
  rintro e w1 ⟨rfl, h1⟩
  have M1 : Blk w1 (w.heap.size + 1) 25 #[.int .i64 NM, .slice AM0 nM0 cM0, .slice AM1 nM1 cM1] := ((Blk.new' _ (by simp) _ _)).up h1
  have U1 : Up w w1 := ((((Up.refl w).alloc _).alloc _)).trans h1
  clear h1
  have M1c := M1.cell
  have M1l := M1.lt
  go_wp2_with (fail)
  refine (hf.out _).mono ?_
  rintro e w2 ⟨rfl, h2⟩
  have M2 := M1.up h2
  have U2 : Up w w2 := U1.trans h2
  clear h2 M1 M1c M1l U1
  have M2c := M2.cell
  have M2l := M2.lt
  go_wp2
  go_ret
  exact ⟨rfl, U2⟩

set_option maxRecDepth 100000 in
set_option maxHeartbeats 8000000 in
theorem walk_gt (m : Me) (P Q : Addr) (c d : Nat) (s : Int) (a : Int) (b : Int) (w : World) (hm : Sits w m P Q c d) (hn : m.n ≤ 200) (hwf : m.wf) (hs : I64 s) (ha : I64 a) (hb : I64 b) (hab : b < a) :
    Calls Try.prog 6 #[.agg #[.int .i64 m.n, .slice (some P) m.n c, .slice (some Q) m.n d, .int .i64 s, .int .i64 a, .int .i64 b]] w (fun e w' => e = .returned (.bool true) ∧ Up w w') := by
  have hfew : few m.n m.n m.n = true := by unfold few rt; simp; have := hm.1.1; omega
  have hf := fun w => few_any m.n (some P) (some Q) m.n m.n c d w
  rw [hfew] at hf
  have hf := Lib.hid hf
  have hok := hm.1
  have HM := Lib.hid hm
  clear hfew hm
  have h1 := fun (W : World) (hS : Sits W m P Q c d) => all_any m P Q c d s a W hS hwf
  have h2 := fun (W : World) (hS : Sits W m P Q c d) => all_any m P Q c d s b W hS hwf
  have q0 : decide (b < a) = true := decide_eq_true hab
  have h1 := Lib.hid h1
  have h2 := Lib.hid h2
  generalize m.tle s a = z1 at h1
  generalize m.tle s b = z2 at h2
  generalize m.tll wAll s a = X at h1
  generalize m.tll wAll s b = Y at h2
  clear hwf hs ha hb hn hok hab
  go_enter Try.func6, Try.ntmps6
  go_wp2_with (fail)
  refine (shown_any _).mono ?_
  rintro e w1 ⟨rfl, h1⟩
  have M1 : Blk w1 (w.heap.size + 1) 25 #[.int .i64 m.n, .slice (some P) m.n c, .slice (some Q) m.n d] := ((Blk.new' _ (by simp) _ _)).up h1
  have U1 : Up w w1 := ((((Up.refl w).alloc _).alloc _)).trans h1
  clear h1
  have M1c := M1.cell
  have M1l := M1.lt
  go_wp2_with (fail)
  refine (hf.out _).mono ?_
  rintro e w2 ⟨rfl, h2⟩
  have M2 := M1.up h2
  have U2 : Up w w2 := U1.trans h2
  clear h2 M1 M1c M1l U1
  have M2c := M2.cell
  have M2l := M2.lt
  go_wp2_with (fail)
  refine (h1.out _ (HM.out.up U2)).mono ?_
  rintro e w3 ⟨vX, rfl, hlX, h3⟩
  have M3 := M2.up h3
  have U3 : Up w w3 := U2.trans h3
  obtain ⟨AX, capX, rfl, hcX, hmX, rdX⟩ := hlX.sl
  have rX3 := Lib.hid rdX
  clear h3 M2 M2c M2l U2 rdX hlX
  have M3c := M3.cell
  have M3l := M3.lt
  go_wp2_with (fail)
  refine (h2.out _ (HM.out.up U3)).mono ?_
  rintro e w4 ⟨vY, rfl, hlY, h4⟩
  have M4 := M3.up h4
  have U4 : Up w w4 := U3.trans h4
  have rX4 := Lib.hid (rX3.out.up h4)
  obtain ⟨AY, capY, rfl, hcY, hmY, rdY⟩ := hlY.sl
  have rY4 := Lib.hid rdY
  clear h4 M3 M3c M3l U3 rX3 rdY hlY
  have M4c := M4.cell
  have M4l := M4.lt
  go_wp2
  go_ret
  exact ⟨rfl, U4⟩

set_option maxRecDepth 100000 in
set_option maxHeartbeats 8000000 in
theorem walk_e1 (m : Me) (P Q : Addr) (c d : Nat) (s : Int) (a : Int) (b : Int) (w : World) (hm : Sits w m P Q c d) (hn : m.n ≤ 200) (hwf : m.wf) (hs : I64 s) (ha : I64 a) (hb : I64 b) (hab : a ≤ b) (he : m.tle s a ≠ 0) :
    Calls Try.prog 6 #[.agg #[.int .i64 m.n, .slice (some P) m.n c, .slice (some Q) m.n d, .int .i64 s, .int .i64 a, .int .i64 b]] w (fun e w' => e = .returned (.bool true) ∧ Up w w') := by
  have hfew : few m.n m.n m.n = true := by unfold few rt; simp; have := hm.1.1; omega
  have hf := fun w => few_any m.n (some P) (some Q) m.n m.n c d w
  rw [hfew] at hf
  have hf := Lib.hid hf
  have hok := hm.1
  have HM := Lib.hid hm
  clear hfew hm
  have h1 := fun (W : World) (hS : Sits W m P Q c d) => all_any m P Q c d s a W hS hwf
  have h2 := fun (W : World) (hS : Sits W m P Q c d) => all_any m P Q c d s b W hS hwf
  have q0 : decide (b < a) = false := decide_eq_false (by omega)
  have q1 : (m.tle s a != 0) = true := bne_iff_ne.mpr he
  have h1 := Lib.hid h1
  have h2 := Lib.hid h2
  generalize m.tle s a = z1 at h1 q1 he
  generalize m.tle s b = z2 at h2
  clear he
  generalize m.tll wAll s a = X at h1
  generalize m.tll wAll s b = Y at h2
  clear hwf hs ha hb hn hok hab
  go_enter Try.func6, Try.ntmps6
  go_wp2_with (fail)
  refine (shown_any _).mono ?_
  rintro e w1 ⟨rfl, h1⟩
  have M1 : Blk w1 (w.heap.size + 1) 25 #[.int .i64 m.n, .slice (some P) m.n c, .slice (some Q) m.n d] := ((Blk.new' _ (by simp) _ _)).up h1
  have U1 : Up w w1 := ((((Up.refl w).alloc _).alloc _)).trans h1
  clear h1
  have M1c := M1.cell
  have M1l := M1.lt
  go_wp2_with (fail)
  refine (hf.out _).mono ?_
  rintro e w2 ⟨rfl, h2⟩
  have M2 := M1.up h2
  have U2 : Up w w2 := U1.trans h2
  clear h2 M1 M1c M1l U1
  have M2c := M2.cell
  have M2l := M2.lt
  go_wp2_with (fail)
  refine (h1.out _ (HM.out.up U2)).mono ?_
  rintro e w3 ⟨vX, rfl, hlX, h3⟩
  have M3 := M2.up h3
  have U3 : Up w w3 := U2.trans h3
  obtain ⟨AX, capX, rfl, hcX, hmX, rdX⟩ := hlX.sl
  have rX3 := Lib.hid rdX
  clear h3 M2 M2c M2l U2 rdX hlX
  have M3c := M3.cell
  have M3l := M3.lt
  go_wp2_with (fail)
  refine (h2.out _ (HM.out.up U3)).mono ?_
  rintro e w4 ⟨vY, rfl, hlY, h4⟩
  have M4 := M3.up h4
  have U4 : Up w w4 := U3.trans h4
  have rX4 := Lib.hid (rX3.out.up h4)
  obtain ⟨AY, capY, rfl, hcY, hmY, rdY⟩ := hlY.sl
  have rY4 := Lib.hid rdY
  clear h4 M3 M3c M3l U3 rX3 rdY hlY
  have M4c := M4.cell
  have M4l := M4.lt
  go_wp2
  go_ret
  exact ⟨rfl, U4⟩

set_option maxRecDepth 100000 in
set_option maxHeartbeats 8000000 in
theorem walk_e2 (m : Me) (P Q : Addr) (c d : Nat) (s : Int) (a : Int) (b : Int) (w : World) (hm : Sits w m P Q c d) (hn : m.n ≤ 200) (hwf : m.wf) (hs : I64 s) (ha : I64 a) (hb : I64 b) (hab : a ≤ b) (he : m.tle s a = 0) (hf2 : m.tle s b ≠ 0) :
    Calls Try.prog 6 #[.agg #[.int .i64 m.n, .slice (some P) m.n c, .slice (some Q) m.n d, .int .i64 s, .int .i64 a, .int .i64 b]] w (fun e w' => e = .returned (.bool true) ∧ Up w w') := by
  have hfew : few m.n m.n m.n = true := by unfold few rt; simp; have := hm.1.1; omega
  have hf := fun w => few_any m.n (some P) (some Q) m.n m.n c d w
  rw [hfew] at hf
  have hf := Lib.hid hf
  have hok := hm.1
  have HM := Lib.hid hm
  clear hfew hm
  have h1 := fun (W : World) (hS : Sits W m P Q c d) => all_any m P Q c d s a W hS hwf
  have h2 := fun (W : World) (hS : Sits W m P Q c d) => all_any m P Q c d s b W hS hwf
  have q0 : decide (b < a) = false := decide_eq_false (by omega)
  have q1 : (m.tle s b != 0) = true := bne_iff_ne.mpr hf2
  rw [he] at h1
  have h1 := Lib.hid h1
  have h2 := Lib.hid h2
  generalize m.tle s b = z2 at h2 q1 hf2
  clear he hf2
  generalize m.tll wAll s a = X at h1
  generalize m.tll wAll s b = Y at h2
  clear hwf hs ha hb hn hok hab
  go_enter Try.func6, Try.ntmps6
  go_wp2_with (fail)
  refine (shown_any _).mono ?_
  rintro e w1 ⟨rfl, h1⟩
  have M1 : Blk w1 (w.heap.size + 1) 25 #[.int .i64 m.n, .slice (some P) m.n c, .slice (some Q) m.n d] := ((Blk.new' _ (by simp) _ _)).up h1
  have U1 : Up w w1 := ((((Up.refl w).alloc _).alloc _)).trans h1
  clear h1
  have M1c := M1.cell
  have M1l := M1.lt
  go_wp2_with (fail)
  refine (hf.out _).mono ?_
  rintro e w2 ⟨rfl, h2⟩
  have M2 := M1.up h2
  have U2 : Up w w2 := U1.trans h2
  clear h2 M1 M1c M1l U1
  have M2c := M2.cell
  have M2l := M2.lt
  go_wp2_with (fail)
  refine (h1.out _ (HM.out.up U2)).mono ?_
  rintro e w3 ⟨vX, rfl, hlX, h3⟩
  have M3 := M2.up h3
  have U3 : Up w w3 := U2.trans h3
  obtain ⟨AX, capX, rfl, hcX, hmX, rdX⟩ := hlX.sl
  have rX3 := Lib.hid rdX
  clear h3 M2 M2c M2l U2 rdX hlX
  have M3c := M3.cell
  have M3l := M3.lt
  go_wp2_with (fail)
  refine (h2.out _ (HM.out.up U3)).mono ?_
  rintro e w4 ⟨vY, rfl, hlY, h4⟩
  have M4 := M3.up h4
  have U4 : Up w w4 := U3.trans h4
  have rX4 := Lib.hid (rX3.out.up h4)
  obtain ⟨AY, capY, rfl, hcY, hmY, rdY⟩ := hlY.sl
  have rY4 := Lib.hid rdY
  clear h4 M3 M3c M3l U3 rX3 rdY hlY
  have M4c := M4.cell
  have M4l := M4.lt
  go_wp2
  go_ret
  exact ⟨rfl, U4⟩

set_option maxRecDepth 100000 in
set_option maxHeartbeats 8000000 in
theorem walk_ok (m : Me) (P Q : Addr) (c d : Nat) (s : Int) (a : Int) (b : Int) (w : World) (hm : Sits w m P Q c d) (hn : m.n ≤ 200) (hwf : m.wf) (hs : I64 s) (ha : I64 a) (hb : I64 b) (hab : a ≤ b) (he : m.tle s a = 0) (hf2 : m.tle s b = 0) :
    Calls Try.prog 6 #[.agg #[.int .i64 m.n, .slice (some P) m.n c, .slice (some Q) m.n d, .int .i64 s, .int .i64 a, .int .i64 b]] w (fun e w' => e = .returned (.bool true) ∧ Up w w') := by
  have hfew : few m.n m.n m.n = true := by unfold few rt; simp; have := hm.1.1; omega
  have hf := fun w => few_any m.n (some P) (some Q) m.n m.n c d w
  rw [hfew] at hf
  have hf := Lib.hid hf
  have hok := hm.1
  have HM := Lib.hid hm
  clear hfew hm
  have h1 := fun (W : World) (hS : Sits W m P Q c d) => all_any m P Q c d s a W hS hwf
  have h2 := fun (W : World) (hS : Sits W m P Q c d) => all_any m P Q c d s b W hS hwf
  have q0 : decide (b < a) = false := decide_eq_false (by omega)
  have hpre := chn_pre _ _ 0 a b hab (all_chn he) (all_chn hf2)
  have hlX := tll_len m s a wAll hok.2.1
  have hlY := tll_len m s b wAll hok.2.1
  rw [he] at h1
  rw [hf2] at h2
  have h1 := Lib.hid h1
  have h2 := Lib.hid h2
  generalize m.tll wAll s a = X at h1 hpre hlX
  generalize m.tll wAll s b = Y at h2 hpre hlY
  have hlen := hpre.length_le
  have htk := Lib.hid (List.prefix_iff_eq_take.1 hpre).symm
  have q1 : decide (Y.length < X.length) = false := decide_eq_false (by omega)
  have hmx : Hid (X.length ≤ maxLen) := Lib.hid (by unfold maxLen; omega)
  clear hwf hs ha hb hn hok hab he hf2 hpre
  go_enter Try.func6, Try.ntmps6
  go_wp2_with (fail)
  refine (shown_any _).mono ?_
  rintro e w1 ⟨rfl, h1⟩
  have M1 : Blk w1 (w.heap.size + 1) 25 #[.int .i64 m.n, .slice (some P) m.n c, .slice (some Q) m.n d] := ((Blk.new' _ (by simp) _ _)).up h1
  have U1 : Up w w1 := ((((Up.refl w).alloc _).alloc _)).trans h1
  clear h1
  have M1c := M1.cell
  have M1l := M1.lt
  go_wp2_with (fail)
  refine (hf.out _).mono ?_
  rintro e w2 ⟨rfl, h2⟩
  have M2 := M1.up h2
  have U2 : Up w w2 := U1.trans h2
  clear h2 M1 M1c M1l U1
  have M2c := M2.cell
  have M2l := M2.lt
  go_wp2_with (fail)
  refine (h1.out _ (HM.out.up U2)).mono ?_
  rintro e w3 ⟨vX, rfl, hlX, h3⟩
  have M3 := M2.up h3
  have U3 : Up w w3 := U2.trans h3
  obtain ⟨AX, capX, rfl, hcX, hmX, rdX⟩ := hlX.sl
  have rX3 := Lib.hid rdX
  clear h3 M2 M2c M2l U2 rdX hlX
  have M3c := M3.cell
  have M3l := M3.lt
  go_wp2_with (fail)
  refine (h2.out _ (HM.out.up U3)).mono ?_
  rintro e w4 ⟨vY, rfl, hlY, h4⟩
  have M4 := M3.up h4
  have U4 : Up w w4 := U3.trans h4
  have rX4 := Lib.hid (rX3.out.up h4)
  obtain ⟨AY, capY, rfl, hcY, hmY, rdY⟩ := hlY.sl
  have rY4 := Lib.hid rdY
  clear h4 M3 M3c M3l U3 rX3 rdY hlY
  have M4c := M4.cell
  have M4l := M4.lt
  go_wp2_with (fail)
  refine (rwords_any _ _ _ _ _ _ _ _ _ (Rd.take rY4.out hlen) rX4.out hmx.out).mono ?_
  rintro e w5 ⟨rfl, h5⟩
  have M5 := M4.up h5
  have U5 : Up w w5 := U4.trans h5
  have rX5 := Lib.hid (rX4.out.up h5)
  have rY5 := Lib.hid (rY4.out.up h5)
  clear h5 M4 M4c M4l U4 rX4 rY4
  have M5c := M5.cell
  have M5l := M5.lt
  go_wp2
  go_ret
  exact ⟨by rw [decide_eq_true htk.out]; rfl, U5⟩

theorem walk (NM : Int) (AM0 AM1 : Option Addr) (nM0 nM1 cM0 cM1 : Nat) (xsM ysM : List Int) (s : Int) (a : Int) (b : Int) (w : World) (hxM : SlOk w AM0 nM0 cM0 xsM) (hyM : SlOk w AM1 nM1 cM1 ysM) (hs : I64 s) (ha : I64 a) (hb : I64 b) :
    Calls Try.prog 6 #[.agg #[.int .i64 NM, .slice AM0 nM0 cM0, .slice AM1 nM1 cM1, .int .i64 s, .int .i64 a, .int .i64 b]] w (fun e w' => e = .returned (.bool true) ∧ Up w w') := by
  cases hfew : few NM nM0 nM1
  · exact walk_no NM AM0 AM1 nM0 nM1 cM0 cM1 xsM ysM s a b hfew w
  · obtain ⟨rfl, rfl, h16, h200⟩ := few_is hfew
    obtain ⟨P, Q, rfl, rfl, hm⟩ := sits_of hxM hyM h16 (by omega)
    have hwf := sits_wf hxM hyM
    by_cases hab : b < a
    · exact walk_gt ⟨nM0, xsM, ysM⟩ P Q cM0 cM1 s a b w hm h200 hwf hs ha hb hab
    by_cases he : (⟨nM0, xsM, ysM⟩ : Me).tle s a = 0
    · by_cases hf2 : (⟨nM0, xsM, ysM⟩ : Me).tle s b = 0
      · exact walk_ok ⟨nM0, xsM, ysM⟩ P Q cM0 cM1 s a b w hm h200 hwf hs ha hb (by omega) he hf2
      · exact walk_e2 ⟨nM0, xsM, ysM⟩ P Q cM0 cM1 s a b w hm h200 hwf hs ha hb (by omega) he hf2
    · exact walk_e1 ⟨nM0, xsM, ysM⟩ P Q cM0 cM1 s a b w hm h200 hwf hs ha hb (by omega) he
theorem cells : Try.prog.cellsOf 50 = 6 := by kernel_rfl
set_option maxRecDepth 100000 in
theorem opened {H : Type} {enc : TypeId × Value → H} {w : World} {r : Reach} {b0 : Nat} {vl_ : Value} {d : DataW H} {p : List MemPlace} (hvl_ : Value.okWide Try.prog w r b0 50 vl_) (h_ : DataW.Trod enc Try.prog w 0 (fun _ => true) true 50 vl_ d p) :
    ∃ (NM : Int) (AM0 AM1 : Option Addr) (nM0 nM1 cM0 cM1 : Nat) (xsM ysM : List Int) (s : Int) (a : Int) (b : Int), vl_ = .agg #[.int .i64 NM, .slice AM0 nM0 cM0, .slice AM1 nM1 cM1, .int .i64 s, .int .i64 a, .int .i64 b] ∧ I64 NM ∧ SlOk w AM0 nM0 cM0 xsM ∧ SlOk w AM1 nM1 cM1 ysM ∧ I64 s ∧ I64 a ∧ I64 b := by
  obtain ⟨⟨l⟩, rfl, hsz⟩ := okWide_struct Try.underlying50 hvl_
  match l, hsz.trans cells with
  | [z0_, z1_, z2_, z3_, z4_, z5_], _ =>
    obtain ⟨fuel, hf_⟩ := h_
    obtain ⟨ys_, n_, _, _, _, hlen_, hg_⟩ := DataW.trod_struct Try.underlying50 hf_
    have f0_ := hg_ 0 _ rfl
    have f1_ := hg_ 1 _ rfl
    have f2_ := hg_ 2 _ rfl
    have f3_ := hg_ 3 _ rfl
    match ys_, hlen_ with
    | [y0_, y1_, y2_, y3_], _ =>
      change DataW.trod enc Try.prog w 0 (fun _ => true) true n_ 25 (([z0_, z1_, z2_, z3_, z4_, z5_].drop 0).take (Try.prog.cellsOf 25)) = some y0_ at f0_
      rw [cells_mem] at f0_
      change DataW.trod enc Try.prog w 0 (fun _ => true) true n_ 3 (([z0_, z1_, z2_, z3_, z4_, z5_].drop 3).take (Try.prog.cellsOf 3)) = some y1_ at f1_
      rw [cells_int] at f1_
      change DataW.trod enc Try.prog w 0 (fun _ => true) true n_ 3 (([z0_, z1_, z2_, z3_, z4_, z5_].drop 4).take (Try.prog.cellsOf 3)) = some y2_ at f2_
      rw [cells_int] at f2_
      change DataW.trod enc Try.prog w 0 (fun _ => true) true n_ 3 (([z0_, z1_, z2_, z3_, z4_, z5_].drop 5).take (Try.prog.cellsOf 3)) = some y3_ at f3_
      rw [cells_int] at f3_
      obtain ⟨NM, AM0, AM1, nM0, nM1, cM0, cM1, xsM, ysM, rfl, rfl, rfl, hNM, hxM, hyM⟩ := mem_open (v0 := z0_) (v1 := z1_) (v2 := z2_) f0_
      obtain ⟨s, rfl, hs⟩ := int_open (v := z3_) f1_
      obtain ⟨a, rfl, ha⟩ := int_open (v := z4_) f2_
      obtain ⟨b, rfl, hb⟩ := int_open (v := z5_) f3_
      exact ⟨NM, AM0, AM1, nM0, nM1, cM0, cM1, xsM, ysM, s, a, b, rfl, hNM, hxM, hyM, hs, ha, hb⟩

theorem own : ownKnob Try.prog.godebug = none := by kernel_rfl
set_option maxRecDepth 100000 in
theorem lifted (os : Os) (started : os.Started) (H : Type) (enc : TypeId × Value → H) :
    ReturnsInHanded {} Try.checked os 6 .any (Rows.walkEndsSpec.pre6 enc Try.prog Try.f6 Rows.walkEndsRow.domain false) (Rows.walkEndsSpec.post enc Try.prog Try.f6 false true false false) := by
  refine returnsInHanded_of_change (C := Try.checked) own started (by kernel_rfl) Try.func6
    (ChangeSpec.witness6 (enc := enc) (C := Try.checked) false ⟨#[], #[.agg #[.int .i64 0, .slice none 0 0, .slice none 0 0, .int .i64 0, .int .i64 0, .int .i64 0]], []⟩ 8 (by kernel_rfl) (by kernel_rfl) (by kernel_rfl) (by kernel_rfl)) ?_
  intro W base args ds gs before hval0 hW hcnd _
  have hval : ∀ (j : Nat) t v, Try.f6.params[j]? = some t → args[j]? = some v → Value.okWide Try.prog W .any base t v := hval0
  have hW' := hW
  obtain ⟨p, q, hA0, hV, rfl, hfz, hnd⟩ := hW
  have hA : DataW.TrodAll enc Try.prog W 0 (fun _ => true) true Try.f6.params.toList args.toList ds p := hA0
  rw [Try.params6] at hA hval
  obtain ⟨v0, vs0, d0, ds0, p0, q0, hargs, rfl, rfl, h0, r0⟩ := trodAll_cons hA
  obtain ⟨rfl, rfl, rfl⟩ := trodAll_nil r0
  obtain rfl : args = #[v0] := by cases args; simp_all
  obtain ⟨rfl, rfl⟩ := trodVars_none hV
  have h0k := h0
  obtain ⟨NM, AM0, AM1, nM0, nM1, cM0, cM1, xsM, ysM, s, a, b, rfl, hNM, hxM, hyM, hs, ha, hb⟩ := opened (hval 0 50 v0 rfl rfl) h0
  clear hA0 hval0
  simp only [List.append_nil] at hW'
  refine (walk NM AM0 AM1 nM0 nM1 cM0 cM1 xsM ysM s a b W hxM hyM hs ha hb).mono fun e W' ⟨he, hg⟩ => ?_
  subst he
  exact ⟨_, rfl, post_below (pa := p0) (pv := []) hW' (fun _ _ _ => (trodAll_cons_mk (shut_bool Try.underlying4 _) trodAll_mk0))
    (fun sp hsp => by
      have t := trodAll_cons_mk (trod_keeps (sp := sp) (by kernel_rfl) (of_decide_eq_true (by kernel_rfl)) h0k hg (fun x hx => hW'.lt x hx) (fun x hx => hsp x hx)) trodAll_mk0
      rw [List.append_nil] at t
      exact t) (fun _ _ => rfl) (by simp)
    hg (ok_one (by kernel_rfl) rfl (okWide_bool_mk Try.underlying4 _))⟩

set_option maxRecDepth 100000 in
theorem over : Rows.walkEndsRow.holds Try.pinned (OpenSpec.ofChange Rows.walkEndsSpec) :=
  OpenClaim.holds_of_wide 6 Try.f6 rfl rfl rfl rfl rfl rfl rfl ⟨rfl, rfl, rfl, rfl, rfl⟩ rfl rfl rfl rfl rfl (by kernel_rfl) Try.func6 (by kernel_rfl)
    (of_decide_eq_true (by kernel_rfl)) (by unfold Func.isWrapper; first | (rw [if_pos (by decide +kernel)]; kernel_rfl) | (rw [if_neg (by decide +kernel)]; exact ⟨rfl, rfl⟩))
    (fun os started H enc _ => lifted os started H enc)

theorem proved : Rows.WalkEndsSaid :=
  over
#print axioms proved
end Go.Proofs.Ytmjadmoadedghaa.LWalkEnds
