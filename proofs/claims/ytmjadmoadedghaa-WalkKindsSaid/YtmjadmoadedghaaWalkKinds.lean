/- The statement WalkKinds is proved for every input, from contracts of the functions that it calls; no condition is added. -/
import Derived.Test.YtmjadmoadedghaaWk12
import Derived.Deep.RegionHeld3
import Derived.BigQuiet
namespace Go.Proofs.Ytmjadmoadedghaa.LWalkKinds
open Go.Joins Go.ChangeShapes Go.WideShapes Go.ChangeAt Go.RowKit Go.Deep
set_option linter.unusedVariables false
set_option linter.unusedSimpArgs false

theorem flt_at (f : Int → Bool) : ∀ (X : List Int) (x : Nat), x < X.length → f (X.getD x 0) = true → ((X.take x).filter f).length < (X.filter f).length ∧ (X.filter f).getD ((X.take x).filter f).length 0 = X.getD x 0
  | [], x, h, _ => by simp at h
  | a :: r, 0, _, h => by
    have h : f a = true := h
    simp [h]
  | a :: r, x + 1, h, e => by
    have ih := flt_at f r x (by simpa using h) (by simpa using e)
    by_cases ha : f a = true
    · simp only [List.take_succ_cons, List.filter_cons, ha, if_true, List.length_cons]
      exact ⟨by omega, by simpa using ih.2⟩
    · simp only [List.take_succ_cons, List.filter_cons, ha]
      exact ⟨ih.1, by simpa using ih.2⟩
theorem flt_snoc (f : Int → Bool) {X : List Int} {x : Nat} (h : x < X.length) : ((X.take (x + 1)).filter f).length = ((X.take x).filter f).length + (if f (X.getD x 0) = true then 1 else 0) := by
  rw [take_snoc' h, List.filter_append, List.length_append, List.filter_cons]
  split <;> simp
def KiRel (f : Int → Bool) (X : List Int) (wb : World) (u13 u14 : Value) (wr : World) : Prop := ∃ x : Nat, x ≤ X.length ∧ u14 = .int .i64 x ∧ u13 = .int .i64 ((X.take x).filter f).length ∧ Up wb wr

set_option maxRecDepth 100000 in
set_option maxHeartbeats 4000000 in
theorem walk_no (NM : Int) (AM0 AM1 : Option Addr) (nM0 nM1 cM0 cM1 : Nat) (s lim : Int) (hfew : few NM nM0 nM1 = false) (w : World) :
    Calls Try.prog 7 #[.agg #[.int .i64 NM, .slice AM0 nM0 cM0, .slice AM1 nM1 cM1], .int .i64 s, .int .i64 lim] w (fun e w' => e = .returned (.bool true) ∧ Up w w') := by
  have hf := fun w => few_any NM AM0 AM1 nM0 nM1 cM0 cM1 w
  rw [hfew] at hf
  have hf := Lib.hid hf
  clear hfew
  go_enter Try.func7, Try.ntmps7
  go_wp2_with (fail)
  refine (shown_any _).mono ?_
  rintro e w1 ⟨rfl, h1⟩
  have M1 : Blk w1 (w.heap.size) 25 #[.int .i64 NM, .slice AM0 nM0 cM0, .slice AM1 nM1 cM1] := ((Blk.new' _ (by simp) _ _)).up h1
  have U1 : Up w w1 := (((Up.refl w).alloc _)).trans h1
  clear h1
  have M1c := M1.cell
  have M1l := M1.lt
  go_wp2_with (fail)
  refine (hf.out _).mono ?_
  rintro e w2 ⟨rfl, h2⟩
  have M2 := M1.up h2
  have U2 : Up w w2 := U1.trans h2
  clear h2 M1 M1c M1l U1
  have M2c := M2.cell
  have M2l := M2.lt
  go_wp2
  go_ret
  exact ⟨rfl, U2⟩

set_option maxRecDepth 100000 in
set_option maxHeartbeats 8000000 in
theorem walk_e (m : Me) (P Q : Addr) (c d : Nat) (s lim : Int) (w : World) (hm : Sits w m P Q c d) (hn : m.n ≤ 200) (hwf : m.wf) (he : m.tle s lim ≠ 0) :
    Calls Try.prog 7 #[.agg #[.int .i64 m.n, .slice (some P) m.n c, .slice (some Q) m.n d], .int .i64 s, .int .i64 lim] w (fun e w' => e = .returned (.bool true) ∧ Up w w') := by
  have hfew : few m.n m.n m.n = true := by unfold few rt; simp; have := hm.1.1; omega
  have hf := fun w => few_any m.n (some P) (some Q) m.n m.n c d w
  rw [hfew] at hf
  have hf := Lib.hid hf
  have hok := hm.1
  have HM := Lib.hid hm
  clear hfew hm
  have h1 := fun (W : World) (hS : Sits W m P Q c d) => all_any m P Q c d s lim W hS hwf
  have h2 := fun (W : World) (hS : Sits W m P Q c d) => objects_any m P Q c d s lim W hS hwf
  have q1 : (m.tle s lim != 0) = true := bne_iff_ne.mpr he
  rw [tll_no _ he] at h1 h2
  have h1 := Lib.hid h1
  have h2 := Lib.hid h2
  generalize m.tle s lim = z1 at h1 h2 q1 he
  clear he hwf hn hok
  go_enter Try.func7, Try.ntmps7
  go_wp2_with (fail)
  refine (shown_any _).mono ?_
  rintro e w1 ⟨rfl, h1⟩
  have M1 : Blk w1 (w.heap.size) 25 #[.int .i64 m.n, .slice (some P) m.n c, .slice (some Q) m.n d] := ((Blk.new' _ (by simp) _ _)).up h1
  have U1 : Up w w1 := (((Up.refl w).alloc _)).trans h1
  clear h1
  have M1c := M1.cell
  have M1l := M1.lt
  go_wp2_with (fail)
  refine (hf.out _).mono ?_
  rintro e w2 ⟨rfl, h2⟩
  have M2 := M1.up h2
  have U2 : Up w w2 := U1.trans h2
  clear h2 M1 M1c M1l U1
  have M2c := M2.cell
  have M2l := M2.lt
  go_wp2_with (fail)
  refine (h1.out _ (HM.out.up U2)).mono ?_
  rintro e w3 ⟨vX, rfl, hlX, h3⟩
  have M3 := M2.up h3
  have U3 : Up w w3 := U2.trans h3
  obtain ⟨AX, capX, rfl, hcX, hmX, rdX⟩ := hlX.sl
  have rX3 := Lib.hid rdX
  clear h3 M2 M2c M2l U2 rdX hlX
  have M3c := M3.cell
  have M3l := M3.lt
  go_wp2_with (fail)
  refine (h2.out _ (HM.out.up U3)).mono ?_
  rintro e w4 ⟨vY, rfl, hlY, h4⟩
  have M4 := M3.up h4
  have U4 : Up w w4 := U3.trans h4
  have rX4 := Lib.hid (rX3.out.up h4)
  obtain ⟨AY, capY, rfl, hcY, hmY, rdY⟩ := hlY.sl
  have rY4 := Lib.hid rdY
  clear h4 M3 M3c M3l U3 rX3 rdY hlY
  have M4c := M4.cell
  have M4l := M4.lt
  go_wp2
  go_ret
  exact ⟨rfl, U4⟩

set_option maxRecDepth 100000 in
set_option maxHeartbeats 8000000 in
theorem walk_ok (m : Me) (P Q : Addr) (c d : Nat) (s lim : Int) (w : World) (hm : Sits w m P Q c d) (hn : m.n ≤ 200) (hwf : m.wf) (he : m.tle s lim = 0) :
    Calls Try.prog 7 #[.agg #[.int .i64 m.n, .slice (some P) m.n c, .slice (some Q) m.n d], .int .i64 s, .int .i64 lim] w (fun e w' => e = .returned (.bool true) ∧ Up w w') := by
  have hfew : few m.n m.n m.n = true := by unfold few rt; simp; have := hm.1.1; omega
  have hf := fun w => few_any m.n (some P) (some Q) m.n m.n c d w
  rw [hfew] at hf
  have hf := Lib.hid hf
  have hok := hm.1
  have HM := Lib.hid hm
  clear hfew hm
  have h1 := fun (W : World) (hS : Sits W m P Q c d) => all_any m P Q c d s lim W hS hwf
  have h2 := fun (W : World) (hS : Sits W m P Q c d) => objects_any m P Q c d s lim W hS hwf
  have hlX := tll_len m s lim wAll hok.2.1
  have hlY := tll_len m s lim wObj hok.2.1
  have hXu : ∀ x ∈ m.tll wAll s lim, U64 x := tll_u64 hok.2.1
  have hYu : ∀ x ∈ m.tll wObj s lim, U64 x := tll_u64 hok.2.1
  rw [he] at h1 h2
  have h1 := Lib.hid h1
  have h2 := Lib.hid h2
  have h3 := Lib.hid (fun (V : World) (A : Option Addr) (cap : Nat) (hS : Sits V m P Q c d) (hr : Rd V A (m.tll wAll s lim).length (m.tll wAll s lim)) => words_is m P Q c d A _ cap (m.tll wAll s lim) V hS hwf hr hXu (by omega))
  have h5 := fun (V : World) (A : Option Addr) (cap : Nat) (hS : Sits V m P Q c d) (hr : Rd V A (m.tll wObj s lim).length (m.tll wObj s lim)) => words_is m P Q c d A _ cap (m.tll wObj s lim) V hS hwf hr hYu (by omega)
  obtain ⟨f, hf0⟩ : ∃ f : Int → Bool, f = fun a => m.att a != 255 := ⟨_, rfl⟩
  have hff := Lib.hid (fun a => (congrFun hf0 a : f a = (m.att a != 255)))
  have hflt : m.tll wObj s lim = (m.tll wAll s lim).filter f := by rw [hf0]; exact obj_flt
  have how : m.ows (m.tll wObj s lim) = m.ows (m.tll wAll s lim) := by rw [obj_flt]; exact ows_flt m _
  rw [how] at h5
  have h5 := Lib.hid h5
  replace hflt := Lib.hid hflt
  clear how hf0 hYu he
  generalize m.tll wAll s lim = X at *
  generalize m.tll wObj s lim = Y at *
  have hX := Lib.hid (fun x (hx : x < X.length) => hXu (X.getD x 0) (by simp [List.getD, List.getElem?_eq_getElem hx]))
  replace hwf := Lib.hid hwf
  clear hn hok hXu
  go_enter Try.func7, Try.ntmps7
  go_wp2_with (fail)
  refine (shown_any _).mono ?_
  rintro e w1 ⟨rfl, h1⟩
  have M1 : Blk w1 (w.heap.size) 25 #[.int .i64 m.n, .slice (some P) m.n c, .slice (some Q) m.n d] := ((Blk.new' _ (by simp) _ _)).up h1
  have U1 : Up w w1 := (((Up.refl w).alloc _)).trans h1
  clear h1
  have M1c := M1.cell
  have M1l := M1.lt
  go_wp2_with (fail)
  refine (hf.out _).mono ?_
  rintro e w2 ⟨rfl, h2⟩
  have M2 := M1.up h2
  have U2 : Up w w2 := U1.trans h2
  clear h2 M1 M1c M1l U1
  have M2c := M2.cell
  have M2l := M2.lt
  go_wp2_with (fail)
  refine (h1.out _ (HM.out.up U2)).mono ?_
  rintro e w3 ⟨vX, rfl, hlX, h3⟩
  have M3 := M2.up h3
  have U3 : Up w w3 := U2.trans h3
  obtain ⟨AX, capX, rfl, hcX, hmX, rdX⟩ := hlX.sl
  have rX3 := Lib.hid rdX
  clear h3 M2 M2c M2l U2 rdX hlX
  have M3c := M3.cell
  have M3l := M3.lt
  go_wp2_with (fail)
  refine (h2.out _ (HM.out.up U3)).mono ?_
  rintro e w4 ⟨vY, rfl, hlY, h4⟩
  have M4 := M3.up h4
  have U4 : Up w w4 := U3.trans h4
  have rX4 := Lib.hid (rX3.out.up h4)
  obtain ⟨AY, capY, rfl, hcY, hmY, rdY⟩ := hlY.sl
  have rY4 := Lib.hid rdY
  clear h4 M3 M3c M3l U3 rX3 rdY hlY
  have M4c := M4.cell
  have M4l := M4.lt
  go_wp2
  go_loopw [13, 14] (fun u13 u14 wr => KiRel f X w4 u13 u14 wr) (fun _ u14 _ => X.length - (intOf u14).toNat)
  case atStart => exact ⟨0, Nat.zero_le _, rfl, rfl, Up.refl _⟩
  case round =>
    obtain ⟨x, hx, rfl, rfl, UR⟩ := hrel
    clear M4c M4l
    have Mr := M4.up UR
    have RXr := rX4.out.up UR
    have RYr := rY4.out.up UR
    by_cases hlt : x < X.length
    · obtain ⟨p, rfl, hrow⟩ := RXr.2 (by omega)
      have hb1 := hX.out x hlt
      have hft := hff.out (X.getD x 0)
      have hfa := flt_at f X x hlt
      have hfs := Lib.hid (flt_snoc f hlt)
      have hle : ((X.take x).filter f).length ≤ x := by have := List.length_filter_le f (X.take x); rw [List.length_take] at this; omega
      obtain ⟨W0, hW0⟩ : ∃ W0 : World, W0 = wr.drew := ⟨_, rfl⟩
      have U0 : Up W0 wr.drew := by rw [hW0]; exact Up.refl _
      have UW : Up wr W0 := by rw [hW0]; exact (Up.refl _).drew
      have M0 := Mr.up UW
      have hrow0 := hrow.up UW
      have UU := (U4.trans UR).trans UW
      have h4 := Lib.hid (fun (V : World) (hU : Up W0 V) => rat_any m (X.getD x 0) P Q c d V ((HM.out.up UU).up hU) hb1 hwf.out)
      have hat0 := Lib.hid (fun (V : World) (hV : Up W0 V) => (hrow0.up hV).at_ x hlt)
      have RX0 := Lib.hid (RXr.up UW)
      have RY0 := Lib.hid (RYr.up UW)
      have U20 := Lib.hid (UR.trans UW)
      clear hW0 Mr RXr RYr hrow UW hb1 UR UU
      generalize X.getD x 0 = a at *
      generalize ((X.take x).filter f).length = p0 at *
      generalize m.att a = xt at *
      generalize m.atl a = xl at *
      generalize m.atm a = xm at *
      generalize m.ate a = xe at *
      have UE : Up W0 (wr.alloc (.cells #[.int .i64 0, .int .i64 0, .int .u64 0] 33)).drew := U0.alloc _
      have hge : W0.heap.size ≤ wr.heap.size := U0.size
      go_wp2_with (fail)
      go_region_held3 (fun w' => (∀ i, w'.cell? ⟨w.heap.size, i, none⟩ = (#[.int .i64 m.n, .slice (some P) m.n c, .slice (some Q) m.n d] : Array Value)[i]?) ∧ w'.cell? (p.add x) = some (.int .u64 a))
        (first | exact ⟨fun i => (Blk.up M0 (by assumption)).cell i, hat0.out _ (by assumption)⟩ | exact ⟨fun i => (Blk.up M0 (Up.alloc (by assumption) _)).cell i, hat0.out _ (Up.alloc (by assumption) _)⟩ | exact ⟨fun i => (Blk.up M0 (Up.set3 (by assumption) hge _ _ _)).cell i, hat0.out _ (Up.set3 (by assumption) hge _ _ _)⟩)
        (first
          | (go_at_call 13; ((with_reducible refine (h4.out _ (by assumption)).mono ?_); rintro e wz ⟨rfl, hz⟩; have UZ := Up.trans (a := W0) (by assumption) hz; have HH := (Blk.new wr 33 #[.int .i64 0, .int .i64 0, .int .u64 0]).drew.up hz; have HHc := HH.cell; have HHf := HH.frozen; have HHl := HH.lt))
          | (go_at_call 13; ((with_reducible refine (h4.out _ (by assumption)).mono ?_); rintro e wz ⟨rfl, hz⟩; have UZ := Up.trans (a := W0) (by assumption) hz)))
      all_goals
        first
          | (have HG := HH.set3 (.int .i64 xt) (.int .i64 xl) (.int .u64 xm); have UY := UZ.set3 hge (.int .i64 xt) (.int .i64 xl) (.int .u64 xm)
             clear HHc HHf HHl HH hz UZ
             generalize (((wz.setCell ⟨wr.heap.size, 0, none⟩ (.int .i64 xt)).setCell ⟨wr.heap.size, 1, none⟩ (.int .i64 xl)).setCell ⟨wr.heap.size, 2, none⟩ (.int .u64 xm)) = wy at HG UY ⊢; generalize wr.heap.size = g at HG ⊢)
          | (have HG := Blk.new wz 33 #[.int .i64 xt, .int .i64 xl, .int .u64 xm]; have UY := UZ.alloc (.cells #[.int .i64 xt, .int .i64 xl, .int .u64 xm] 33)
             clear hz UZ
             generalize wz.alloc (.cells #[.int .i64 xt, .int .i64 xl, .int .u64 xm] 33) = wy at HG UY ⊢; generalize wz.heap.size = g at HG ⊢)
      all_goals
        have RXz := Lib.hid (RX0.out.up UY)
        have RYz := Lib.hid (RY0.out.up UY)
        have UF := Lib.hid (U20.out.trans UY)
        have HGc := HG.cell
        have HGl := HG.lt
        have hcell := hat0.out _ UY
        clear h1 h2 h3 h5 h4 hat0 UY U0 UE RX0 RY0 U20 hge M0 hrow0 hX HG
        by_cases ht : xt = 255
        · subst ht
          have hft : f a = false := by rw [hft]; rfl
          rw [hft] at hfs
          go_wp2_with (fail)
          refine ⟨⟨x + 1, by omega, by go_num, by rw [hfs.out]; rfl, UF.out⟩, by simp [intOf]; omega⟩
        · have htb : (xt == 255) = false := beq_eq_false_iff_ne.mpr ht
          have hft : f a = true := by rw [hft]; unfold bne; rw [htb]; rfl
          rw [hft] at hfs
          obtain ⟨hf1, hf2⟩ := hfa hft
          rw [← hflt.out] at hf1 hf2
          obtain ⟨p2, rfl, hc2⟩ := RYz.out.at_ hf1
          rw [hf2] at hc2
          clear hf2 hfa hft hff hflt
          go_wp2_with (fail)
          have qd : decide ((p0 : Int) ≥ (Y.length : Int)) = false := decide_eq_false (by omega)
          clear HGc HGl
          go_quiet (fail)
          go_wp2
          refine ⟨⟨x + 1, by omega, by go_num, by rw [hfs.out]; go_num, UF.out.drewN nq⟩, by simp [intOf]; omega⟩
    · obtain rfl : x = X.length := by omega
      have UE := Lib.hid (U4.trans UR)
      have h3 := Lib.hid (fun V (hV : Up wr V) => h3.out V _ capX (HM.out.up (UE.out.trans hV)) (RXr.up hV))
      have h5 := Lib.hid (h5.out wr _ capY (HM.out.up UE.out) RYr)
      have hcm := (Mr.cell)
      have M9 := Mr
      clear h1 h2 hX RXr RYr Mr hlX
      rw [List.take_of_length_le (Nat.le_refl _), ← hflt.out]
      generalize m.ows X = o1 at *
      generalize m.fws X = o2 at *
      generalize m.fws Y = o3 at *
      go_wp2_with (fail)
      refine h5.out.mono ?_
      rintro e w9 ⟨rfl, h9⟩
      have hcn := (M9.up h9).cell
      have h3 := Lib.hid (h3.out _ h9)
      have UE := Lib.hid (UE.out.trans h9)
      clear h9 M9 hcm
      go_wp2_with (fail)
      refine h3.out.mono ?_
      rintro e wa ⟨rfl, ha⟩
      go_wp2
      go_ret
      exact ⟨rfl, UE.out.trans ha⟩

theorem walk (NM : Int) (AM0 AM1 : Option Addr) (nM0 nM1 cM0 cM1 : Nat) (xsM ysM : List Int) (s lim : Int) (w : World) (hxM : SlOk w AM0 nM0 cM0 xsM) (hyM : SlOk w AM1 nM1 cM1 ysM)  :
    Calls Try.prog 7 #[.agg #[.int .i64 NM, .slice AM0 nM0 cM0, .slice AM1 nM1 cM1], .int .i64 s, .int .i64 lim] w (fun e w' => e = .returned (.bool true) ∧ Up w w') := by
  cases hfew : few NM nM0 nM1
  · exact walk_no NM AM0 AM1 nM0 nM1 cM0 cM1 s lim hfew w
  · obtain ⟨rfl, rfl, h16, h200⟩ := few_is hfew
    obtain ⟨P, Q, rfl, rfl, hm⟩ := sits_of hxM hyM h16 (by omega)
    have hwf := sits_wf hxM hyM
    by_cases he : (⟨nM0, xsM, ysM⟩ : Me).tle s lim = 0
    · exact walk_ok ⟨nM0, xsM, ysM⟩ P Q cM0 cM1 s lim w hm h200 hwf he
    · exact walk_e ⟨nM0, xsM, ysM⟩ P Q cM0 cM1 s lim w hm h200 hwf he
set_option maxRecDepth 100000 in
theorem opened {H : Type} {enc : TypeId × Value → H} {w : World} {r : Reach} {b0 : Nat} {v : Value} {d : DataW H} {p : List MemPlace} (hv : Value.okWide Try.prog w r b0 25 v) (h : DataW.Trod enc Try.prog w 0 (fun _ => true) true 25 v d p) :
    ∃ (N : Int) (A0 A1 : Option Addr) (n0 n1 c0 c1 : Nat) (xs ys : List Int), v = .agg #[.int .i64 N, .slice A0 n0 c0, .slice A1 n1 c1] ∧ I64 N ∧ SlOk w A0 n0 c0 xs ∧ SlOk w A1 n1 c1 ys := by
  obtain ⟨⟨l⟩, rfl, hsz⟩ := okWide_struct Try.underlying25 hv
  match l, hsz.trans cells_mem with
  | [z0, z1, z2], _ =>
    obtain ⟨fuel, hf⟩ := h
    obtain ⟨N, A0, A1, n0, n1, c0, c1, xs, ys, rfl, rfl, rfl, h1, h2, h3⟩ := mem_open (v0 := z0) (v1 := z1) (v2 := z2) hf
    exact ⟨N, A0, A1, n0, n1, c0, c1, xs, ys, rfl, h1, h2, h3⟩

theorem own : ownKnob Try.prog.godebug = none := by kernel_rfl
set_option maxRecDepth 100000 in
theorem lifted (os : Os) (started : os.Started) (H : Type) (enc : TypeId × Value → H) :
    ReturnsInHanded {} Try.checked os 7 .any (Rows.walkKindsSpec.pre6 enc Try.prog Try.f7 Rows.walkKindsRow.domain false) (Rows.walkKindsSpec.post enc Try.prog Try.f7 false true false false) := by
  refine returnsInHanded_of_change (C := Try.checked) own started (by kernel_rfl) Try.func7
    (ChangeSpec.witness6 (enc := enc) (C := Try.checked) false ⟨#[], #[.agg #[.int .i64 0, .slice none 0 0, .slice none 0 0], .int .i64 0, .int .i64 0], []⟩ 8 (by kernel_rfl) (by kernel_rfl) (by kernel_rfl) (by kernel_rfl)) ?_
  intro W base args ds gs before hval0 hW hcnd _
  have hval : ∀ (j : Nat) t v, Try.f7.params[j]? = some t → args[j]? = some v → Value.okWide Try.prog W .any base t v := hval0
  have hW' := hW
  obtain ⟨p, q, hA0, hV, rfl, hfz, hnd⟩ := hW
  have hA : DataW.TrodAll enc Try.prog W 0 (fun _ => true) true Try.f7.params.toList args.toList ds p := hA0
  rw [Try.params7] at hA hval
  obtain ⟨v0, vs0, d0, ds0, p0, q0, hargs, rfl, rfl, h0, r0⟩ := trodAll_cons hA
  obtain ⟨v1, vs1, d1, ds1, p1, q1, rfl, rfl, rfl, h1, r1⟩ := trodAll_cons r0
  obtain ⟨v2, vs2, d2, ds2, p2, q2, rfl, rfl, rfl, h2, r2⟩ := trodAll_cons r1
  obtain ⟨rfl, rfl, rfl⟩ := trodAll_nil r2
  obtain rfl : args = #[v0, v1, v2] := by cases args; simp_all
  obtain ⟨rfl, rfl⟩ := trodVars_none hV
  have h0k := h0
  obtain ⟨N, A0, A1, n0, n1, c0, c1, xs, ys, rfl, hN, hx, hy⟩ := opened (hval 0 25 v0 rfl rfl) h0
  obtain ⟨a1, rfl, rfl, rfl, w1⟩ := open_int Try.underlying3 (hval 1 3 v1 rfl rfl) h1
  obtain ⟨a2, rfl, rfl, rfl, w2⟩ := open_int Try.underlying3 (hval 2 3 v2 rfl rfl) h2
  clear hA0 hval0
  simp only [List.append_nil, List.nil_append] at hW'
  refine (walk N A0 A1 n0 n1 c0 c1 xs ys a1 a2 W hx hy).mono fun e W' ⟨he, hg⟩ => ?_
  subst he
  exact ⟨_, rfl, post_below (pa := p0) (pv := []) hW' (fun _ _ _ => (trodAll_cons_mk (shut_bool Try.underlying4 _) trodAll_mk0))
    (fun sp hsp => by
      have t := (trodAll_cons_mk (trod_keeps (sp := sp) (by kernel_rfl) (of_decide_eq_true (by kernel_rfl)) h0k hg (fun x hx => hW'.lt x (by simp [hx])) (fun x hx => hsp x (by simp [hx]))) (trodAll_cons_mk (shut_int Try.underlying3 w1) (trodAll_cons_mk (shut_int Try.underlying3 w2) trodAll_mk0)))
      simp only [List.append_nil, List.nil_append] at t
      exact t) (fun _ _ => rfl) (by simp)
    hg (ok_one (by kernel_rfl) rfl (okWide_bool_mk Try.underlying4 _))⟩

theorem over : Rows.walkKindsRow.holds Try.pinned (OpenSpec.ofChange Rows.walkKindsSpec) :=
  OpenClaim.holds_of_wide 7 Try.f7 rfl rfl rfl rfl rfl rfl rfl ⟨rfl, rfl, rfl, rfl, rfl⟩ rfl rfl rfl rfl rfl (by kernel_rfl) Try.func7 (by kernel_rfl)
    (of_decide_eq_true (by kernel_rfl)) (by unfold Func.isWrapper; first | (rw [if_pos (by decide +kernel)]; kernel_rfl) | (rw [if_neg (by decide +kernel)]; exact ⟨rfl, rfl⟩))
    (fun os started H enc _ => lifted os started H enc)

theorem proved : Rows.WalkKindsSaid :=
  over
#print axioms proved
end Go.Proofs.Ytmjadmoadedghaa.LWalkKinds
