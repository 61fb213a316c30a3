/- The document's Do of graphs (dovecoteref15.Do), refused and of scalars: contracts. -/
import Derived.Test.YtlocllcijncllaaDb
namespace Go.Proofs.Ytlocllcijncllaa
open Go.Joins Go.ChangeShapes Go.WideShapes Go.ChangeAt Go.RowKit Go.Deep Go.Shelf Go.Maps
set_option linter.unusedVariables false
set_option linter.unusedSimpArgs false

theorem endK {w W : World} {va vb x y p q r : Value} {o : Op} (h : Bxs w va vb o W) : Kq w W (((((W.setCell ⟨w.heap.size + 1 + 1, 0, none⟩ x).setCell ⟨w.heap.size + 1 + 1, 1, none⟩ y).setCell ⟨w.heap.size + 1 + 1 + 1, 0, none⟩ p).setCell ⟨w.heap.size + 1 + 1 + 1, 1, none⟩ q).setCell ⟨w.heap.size + 1 + 1 + 1, 2, none⟩ r) := by
  obtain ⟨x1, x2, x3, x4, x5, x6⟩ := h
  refine ⟨endU x5, fun b t cs h1 h2 hb => ?_⟩
  have e1 := hb.ne_type x3 h1
  have e2 := hb.ne_type x4 h2
  exact ((((hb.far (p := ⟨w.heap.size + 1 + 1, 0, none⟩) e1 x).far (p := ⟨w.heap.size + 1 + 1, 1, none⟩) e1 y).far (p := ⟨w.heap.size + 1 + 1 + 1, 0, none⟩) e2 p).far (p := ⟨w.heap.size + 1 + 1 + 1, 1, none⟩) e2 q).far (p := ⟨w.heap.size + 1 + 1 + 1, 2, none⟩) e2 r
theorem rfe_S {g : Gr} {th : Int} {o : Op} (h : o.kd = 2 ∨ o.kd = 4 ∨ o.kd = 6 ∨ o.kd = 7) : rfe g th o false = errG g th o := by
  rw [errS h]
  unfold rfe
  by_cases q : fde g th o = 0
  · rw [if_pos q, if_pos q]
    cases isP (hob g th o) o.i <;> rfl
  · rw [if_neg q, if_neg q]
theorem rfe_P {g : Gr} {th : Int} {o : Op} {x : Int} (h : rfe g th o true ≠ 0) : (if fde g th o = 0 then (if isP (hob g th o) o.i then x else 8) else fde g th o) = rfe g th o true := by
  unfold rfe at h ⊢
  by_cases q : fde g th o = 0
  · rw [if_pos q] at h ⊢
    rw [if_pos q]
    by_cases p : isP (hob g th o) o.i = true
    · rw [if_pos p] at h
      exact absurd rfl h
    · rw [if_neg p, if_neg p]
  · rw [if_neg q, if_neg q]
/-- The field that is found. -/
theorem rf_in {g : Gr} {th : Int} {o : Op} {ptr : Bool} (h : rfe g th o ptr = 0) : ∃ y i0 : Nat, gtv (rowOf g th) o.h = (y : Int) + 1 ∧ o.i = (i0 : Nat) ∧ y < g.1.length ∧ i0 < (ndOf g ((y : Int) + 1)).2.length ∧ rfv g th o ptr = (y : Int) ∧ fde g th o = 0 ∧ isP (hob g th o) o.i = ptr ∧ fwd g th o = (ndOf g ((y : Int) + 1)).2.getD i0 0 := by
  have h2 := h
  unfold rfe at h2
  have hf : fde g th o = 0 := by
    by_cases q : fde g th o = 0
    · exact q
    · rw [if_neg q] at h2; exact h2
  rw [if_pos hf] at h2
  have hp : isP (hob g th o) o.i = ptr := by
    by_cases q : isP (hob g th o) o.i = ptr
    · exact q
    · rw [if_neg q] at h2; cases h2
  obtain ⟨h3, h4, h5, h6⟩ := fde_in hf
  have e1 : gtv (rowOf g th) o.h = (((gtv (rowOf g th) o.h).toNat - 1 : Nat) : Int) + 1 := by have := h4.1; omega
  refine ⟨(gtv (rowOf g th) o.h).toNat - 1, o.i.toNat, e1, by omega, by have := h4.1; have := h4.2; omega, by rw [← e1]; have h7 : o.i < ((ndOf g (gtv (rowOf g th) o.h)).2.length : Int) := h6; omega, ?_, hf, hp, by rw [← e1]⟩
  unfold rfv
  rw [if_pos h]
  omega
theorem GrV.fd_at {w : World} {A B : Option Addr} {n c s d : Nat} {g : Gr} {y i : Nat} (h : GrV w (.agg #[.slice A n c, .slice B s d]) g) (hy : y < g.1.length) (hi : i < (ndOf g ((y : Int) + 1)).2.length) : ∃ p pf c', A = some p ∧ w.cell? ⟨(p.add (y * 4)).block, (p.add (y * 4)).off + 3, none⟩ = some (.slice (some pf) (ndOf g ((y : Int) + 1)).2.length c') ∧ w.cell? (pf.add i) = some (.int .u64 ((ndOf g ((y : Int) + 1)).2.getD i 0)) := by
  obtain ⟨us, hns, -⟩ := h.parts
  have hnn : g.1.length = n := by obtain ⟨_, _, e, _⟩ := hns; cases e; rfl
  obtain ⟨p, u, rfl, -, ⟨-, -, -, z3⟩, hsl⟩ := hns.at_ (x := y) (by omega)
  have hnd2 : g.1.getD y ((0, 0, 0), []) = ndOf g ((y : Int) + 1) := by unfold ndOf; rw [show ((y : Int) + 1).toNat - 1 = y from by omega]
  rw [hnd2] at hsl
  obtain ⟨Au, cu, rfl⟩ := hsl.slice
  obtain ⟨pf, rfl, hc⟩ := hsl.at_ hi
  exact ⟨p, pf, cu, rfl, z3, hc⟩
set_option maxRecDepth 100000 in
set_option maxHeartbeats 4000000 in
theorem rdo_arg (v : Value) (g : Gr) (th kd h i k vv t l m : Int) (w : World) (hg : GrV w v g) (hx : ¬ isTh g th ∨ kd < 1 ∨ 11 < kd) : Calls Try.prog 19 #[v, .int .i64 th, .agg #[.int .i64 kd, .int .i64 h, .int .i64 i, .int .i64 k, .int .u64 vv, .int .i64 t, .int .i64 l, .int .u64 m]] w (DoPost (g, (1, 0, false)) w) := by
  obtain ⟨A, c, B, d, rfl, m1, m2⟩ := hg.form
  have HG := Lib.hid hg
  have HNO := Lib.hid (fun W (u : Up w W) => rno_any (.agg #[.slice A g.1.length c, .slice B g.2.length d]) g 1 W (hg.up u))
  have HX := Lib.hid hx
  unfold isTh at hx
  have hcase : th < 0 ∨ (0 ≤ th ∧ (g.2.length : Int) ≤ th) ∨ (0 ≤ th ∧ th < g.2.length ∧ kd < 1) ∨ (0 ≤ th ∧ th < g.2.length ∧ 11 < kd) := by omega
  clear hx hg
  rcases hcase with q | q | q | q
  · have e0 : decide (th < 0) = true := decide_eq_true q
    clear q
    go_enter Try.func19, Try.ntmps19
    go_wp2_with (fail)
    have B4 : Bxs w (.slice A g.1.length c) (.slice B g.2.length d) ⟨kd, h, i, k, vv, t, l, m⟩ ((((w.alloc (.cells #[.slice A g.1.length c, .slice B g.2.length d] 25)).alloc (.cells #[.int .i64 kd, .int .i64 h, .int .i64 i, .int .i64 k, .int .u64 vv, .int .i64 t, .int .i64 l, .int .u64 m] 30)).alloc (.cells #[.slice none 0 0, .slice none 0 0] 25)).alloc (.cells #[.int .i64 0, .int .u64 0, .bool false] 39)) :=
      ⟨(((Blk.new w _ _).alloc _).alloc _).alloc _, ((Blk.new' (w.alloc _) (by simp) _ _).alloc _).alloc _, Blk.alloc (Blk.new' ((w.alloc _).alloc _) (by simp) _ _) _, Blk.new' (((w.alloc _).alloc _).alloc _) (by simp) _ _, ((((Up.refl w).alloc _).alloc _).alloc _).alloc _, by simp⟩
    generalize ((((w.alloc (.cells #[.slice A g.1.length c, .slice B g.2.length d] 25)).alloc (.cells #[.int .i64 kd, .int .i64 h, .int .i64 i, .int .i64 k, .int .u64 vv, .int .i64 t, .int .i64 l, .int .u64 m] 30)).alloc (.cells #[.slice none 0 0, .slice none 0 0] 25)).alloc (.cells #[.int .i64 0, .int .u64 0, .bool false] 39)) = W4 at *
    refine (HNO.out _ B4.2.2.2.2.1).mono ?_
    rintro e w5 ⟨rfl, k5⟩
    have B5 := B4.up k5
    have gc := B5.1.cell
    have gl := B5.1.lt
    have oc : ∀ zi, _ = (#[.int .i64 kd, .int .i64 h, .int .i64 i, .int .i64 k, .int .u64 vv, .int .i64 t, .int .i64 l, .int .u64 m] : Array Value)[zi]? := B5.2.1.cell
    have ol := B5.2.1.lt
    have rc := B5.2.2.1.cell
    have rf := B5.2.2.1.frozen
    have rl := B5.2.2.1.lt
    have ac := B5.2.2.2.1.cell
    have af := B5.2.2.2.1.frozen
    have al := B5.2.2.2.1.lt
    go_wp2_with (fail)
    obtain ⟨x1, x2, x3, x4, x5, x6⟩ := B5
    refine bodyPost_ret (ret_do rfl _ _ (w.heap.size + 1 + 1) (w.heap.size + 1 + 1 + 1) (.slice A g.1.length c) (.slice B g.2.length d) (.int .i64 1) (.int .u64 0) (.bool false) rfl (endG x3 x4) rfl (endA x3 x4)) rfl ?_
    exact ⟨_, rfl, HG.out.up (endU x5), endU x5⟩
  · have e0 : decide (th < 0) = false := decide_eq_false (by omega)
    have e1 : decide (th ≥ (g.2.length : Int)) = true := decide_eq_true (by omega)
    clear q
    go_enter Try.func19, Try.ntmps19
    go_wp2_with (fail)
    have B4 : Bxs w (.slice A g.1.length c) (.slice B g.2.length d) ⟨kd, h, i, k, vv, t, l, m⟩ ((((w.alloc (.cells #[.slice A g.1.length c, .slice B g.2.length d] 25)).alloc (.cells #[.int .i64 kd, .int .i64 h, .int .i64 i, .int .i64 k, .int .u64 vv, .int .i64 t, .int .i64 l, .int .u64 m] 30)).alloc (.cells #[.slice none 0 0, .slice none 0 0] 25)).alloc (.cells #[.int .i64 0, .int .u64 0, .bool false] 39)) :=
      ⟨(((Blk.new w _ _).alloc _).alloc _).alloc _, ((Blk.new' (w.alloc _) (by simp) _ _).alloc _).alloc _, Blk.alloc (Blk.new' ((w.alloc _).alloc _) (by simp) _ _) _, Blk.new' (((w.alloc _).alloc _).alloc _) (by simp) _ _, ((((Up.refl w).alloc _).alloc _).alloc _).alloc _, by simp⟩
    generalize ((((w.alloc (.cells #[.slice A g.1.length c, .slice B g.2.length d] 25)).alloc (.cells #[.int .i64 kd, .int .i64 h, .int .i64 i, .int .i64 k, .int .u64 vv, .int .i64 t, .int .i64 l, .int .u64 m] 30)).alloc (.cells #[.slice none 0 0, .slice none 0 0] 25)).alloc (.cells #[.int .i64 0, .int .u64 0, .bool false] 39)) = W4 at *
    refine (HNO.out _ B4.2.2.2.2.1).mono ?_
    rintro e w5 ⟨rfl, k5⟩
    have B5 := B4.up k5
    have gc := B5.1.cell
    have gl := B5.1.lt
    have oc : ∀ zi, _ = (#[.int .i64 kd, .int .i64 h, .int .i64 i, .int .i64 k, .int .u64 vv, .int .i64 t, .int .i64 l, .int .u64 m] : Array Value)[zi]? := B5.2.1.cell
    have ol := B5.2.1.lt
    have rc := B5.2.2.1.cell
    have rf := B5.2.2.1.frozen
    have rl := B5.2.2.1.lt
    have ac := B5.2.2.2.1.cell
    have af := B5.2.2.2.1.frozen
    have al := B5.2.2.2.1.lt
    go_wp2_with (fail)
    obtain ⟨x1, x2, x3, x4, x5, x6⟩ := B5
    refine bodyPost_ret (ret_do rfl _ _ (w.heap.size + 1 + 1) (w.heap.size + 1 + 1 + 1) (.slice A g.1.length c) (.slice B g.2.length d) (.int .i64 1) (.int .u64 0) (.bool false) rfl (endG x3 x4) rfl (endA x3 x4)) rfl ?_
    exact ⟨_, rfl, HG.out.up (endU x5), endU x5⟩
  · have e0 : decide (th < 0) = false := decide_eq_false (by omega)
    have e1 : decide (th ≥ (g.2.length : Int)) = false := decide_eq_false (by omega)
    have e2 : decide (kd < 1) = true := decide_eq_true (by omega)
    clear q
    go_enter Try.func19, Try.ntmps19
    go_wp2_with (fail)
    have B4 : Bxs w (.slice A g.1.length c) (.slice B g.2.length d) ⟨kd, h, i, k, vv, t, l, m⟩ ((((w.alloc (.cells #[.slice A g.1.length c, .slice B g.2.length d] 25)).alloc (.cells #[.int .i64 kd, .int .i64 h, .int .i64 i, .int .i64 k, .int .u64 vv, .int .i64 t, .int .i64 l, .int .u64 m] 30)).alloc (.cells #[.slice none 0 0, .slice none 0 0] 25)).alloc (.cells #[.int .i64 0, .int .u64 0, .bool false] 39)) :=
      ⟨(((Blk.new w _ _).alloc _).alloc _).alloc _, ((Blk.new' (w.alloc _) (by simp) _ _).alloc _).alloc _, Blk.alloc (Blk.new' ((w.alloc _).alloc _) (by simp) _ _) _, Blk.new' (((w.alloc _).alloc _).alloc _) (by simp) _ _, ((((Up.refl w).alloc _).alloc _).alloc _).alloc _, by simp⟩
    generalize ((((w.alloc (.cells #[.slice A g.1.length c, .slice B g.2.length d] 25)).alloc (.cells #[.int .i64 kd, .int .i64 h, .int .i64 i, .int .i64 k, .int .u64 vv, .int .i64 t, .int .i64 l, .int .u64 m] 30)).alloc (.cells #[.slice none 0 0, .slice none 0 0] 25)).alloc (.cells #[.int .i64 0, .int .u64 0, .bool false] 39)) = W4 at *
    refine (HNO.out _ B4.2.2.2.2.1).mono ?_
    rintro e w5 ⟨rfl, k5⟩
    have B5 := B4.up k5
    have gc := B5.1.cell
    have gl := B5.1.lt
    have oc : ∀ zi, _ = (#[.int .i64 kd, .int .i64 h, .int .i64 i, .int .i64 k, .int .u64 vv, .int .i64 t, .int .i64 l, .int .u64 m] : Array Value)[zi]? := B5.2.1.cell
    have ol := B5.2.1.lt
    have rc := B5.2.2.1.cell
    have rf := B5.2.2.1.frozen
    have rl := B5.2.2.1.lt
    have ac := B5.2.2.2.1.cell
    have af := B5.2.2.2.1.frozen
    have al := B5.2.2.2.1.lt
    go_wp2_with (fail)
    obtain ⟨x1, x2, x3, x4, x5, x6⟩ := B5
    refine bodyPost_ret (ret_do rfl _ _ (w.heap.size + 1 + 1) (w.heap.size + 1 + 1 + 1) (.slice A g.1.length c) (.slice B g.2.length d) (.int .i64 1) (.int .u64 0) (.bool false) rfl (endG x3 x4) rfl (endA x3 x4)) rfl ?_
    exact ⟨_, rfl, HG.out.up (endU x5), endU x5⟩
  · have e0 : decide (th < 0) = false := decide_eq_false (by omega)
    have e1 : decide (th ≥ (g.2.length : Int)) = false := decide_eq_false (by omega)
    have e2 : decide (kd < 1) = false := decide_eq_false (by omega)
    have e3 : decide (kd > 11) = true := decide_eq_true (by omega)
    clear q
    go_enter Try.func19, Try.ntmps19
    go_wp2_with (fail)
    have B4 : Bxs w (.slice A g.1.length c) (.slice B g.2.length d) ⟨kd, h, i, k, vv, t, l, m⟩ ((((w.alloc (.cells #[.slice A g.1.length c, .slice B g.2.length d] 25)).alloc (.cells #[.int .i64 kd, .int .i64 h, .int .i64 i, .int .i64 k, .int .u64 vv, .int .i64 t, .int .i64 l, .int .u64 m] 30)).alloc (.cells #[.slice none 0 0, .slice none 0 0] 25)).alloc (.cells #[.int .i64 0, .int .u64 0, .bool false] 39)) :=
      ⟨(((Blk.new w _ _).alloc _).alloc _).alloc _, ((Blk.new' (w.alloc _) (by simp) _ _).alloc _).alloc _, Blk.alloc (Blk.new' ((w.alloc _).alloc _) (by simp) _ _) _, Blk.new' (((w.alloc _).alloc _).alloc _) (by simp) _ _, ((((Up.refl w).alloc _).alloc _).alloc _).alloc _, by simp⟩
    generalize ((((w.alloc (.cells #[.slice A g.1.length c, .slice B g.2.length d] 25)).alloc (.cells #[.int .i64 kd, .int .i64 h, .int .i64 i, .int .i64 k, .int .u64 vv, .int .i64 t, .int .i64 l, .int .u64 m] 30)).alloc (.cells #[.slice none 0 0, .slice none 0 0] 25)).alloc (.cells #[.int .i64 0, .int .u64 0, .bool false] 39)) = W4 at *
    refine (HNO.out _ B4.2.2.2.2.1).mono ?_
    rintro e w5 ⟨rfl, k5⟩
    have B5 := B4.up k5
    have gc := B5.1.cell
    have gl := B5.1.lt
    have oc : ∀ zi, _ = (#[.int .i64 kd, .int .i64 h, .int .i64 i, .int .i64 k, .int .u64 vv, .int .i64 t, .int .i64 l, .int .u64 m] : Array Value)[zi]? := B5.2.1.cell
    have ol := B5.2.1.lt
    have rc := B5.2.2.1.cell
    have rf := B5.2.2.1.frozen
    have rl := B5.2.2.1.lt
    have ac := B5.2.2.2.1.cell
    have af := B5.2.2.2.1.frozen
    have al := B5.2.2.2.1.lt
    go_wp2_with (fail)
    obtain ⟨x1, x2, x3, x4, x5, x6⟩ := B5
    refine bodyPost_ret (ret_do rfl _ _ (w.heap.size + 1 + 1) (w.heap.size + 1 + 1 + 1) (.slice A g.1.length c) (.slice B g.2.length d) (.int .i64 1) (.int .u64 0) (.bool false) rfl (endG x3 x4) rfl (endA x3 x4)) rfl ?_
    exact ⟨_, rfl, HG.out.up (endU x5), endU x5⟩
set_option maxRecDepth 100000 in
set_option maxHeartbeats 4000000 in
theorem rdo_11 (v : Value) (g : Gr) (th h i k vv t l m : Int) (w : World) (hg : GrV w v g) (hR : Rg g) (hn : g.1.length ≤ 1000000) (hF : FitG g) (ht : isTh g th) (hv : U64 vv) (hm : U64 m) : Calls Try.prog 19 #[v, .int .i64 th, .agg #[.int .i64 11, .int .i64 h, .int .i64 i, .int .i64 k, .int .u64 vv, .int .i64 t, .int .i64 l, .int .u64 m]] w (DoPost (doG g th ⟨11, h, i, k, vv, t, l, m⟩) w) := by
  obtain ⟨A, c, B, d, rfl, m1, m2⟩ := hg.form
  obtain ⟨us, hr⟩ := GrR.of hg
  have d0 : decide (th < 0) = false := decide_eq_false (by have := ht.1; omega)
  have d1 : decide (th ≥ (g.2.length : Int)) = false := decide_eq_false (by have := ht.2; omega)
  have HDO : Hid (doG g th ⟨11, h, i, k, vv, t, l, m⟩ = if errG g th ⟨11, h, i, k, vv, t, l, m⟩ = 0 then (newG g th ⟨11, h, i, k, vv, t, l, m⟩, (0, ansV g th ⟨11, h, i, k, vv, t, l, m⟩, ansY g th ⟨11, h, i, k, vv, t, l, m⟩)) else (g, (errG g th ⟨11, h, i, k, vv, t, l, m⟩, 0, false))) := Lib.hid (by unfold doG; rw [if_pos ht])
  have HG := Lib.hid hg
  have HRR := Lib.hid hr
  have HNO := Lib.hid (fun W (u : Up w W) z => rno_any (.agg #[.slice A g.1.length c, .slice B g.2.length d]) g z W (hg.up u))
  have B4 : Bxs w (.slice A g.1.length c) (.slice B g.2.length d) ⟨11, h, i, k, vv, t, l, m⟩ ((((w.alloc (.cells #[.slice A g.1.length c, .slice B g.2.length d] 25)).alloc (.cells #[.int .i64 11, .int .i64 h, .int .i64 i, .int .i64 k, .int .u64 vv, .int .i64 t, .int .i64 l, .int .u64 m] 30)).alloc (.cells #[.slice none 0 0, .slice none 0 0] 25)).alloc (.cells #[.int .i64 0, .int .u64 0, .bool false] 39)) :=
    ⟨(((Blk.new w _ _).alloc _).alloc _).alloc _, ((Blk.new' (w.alloc _) (by simp) _ _).alloc _).alloc _, Blk.alloc (Blk.new' ((w.alloc _).alloc _) (by simp) _ _) _, Blk.new' (((w.alloc _).alloc _).alloc _) (by simp) _ _, ((((Up.refl w).alloc _).alloc _).alloc _).alloc _, by simp⟩
  clear hg hR hF ht hr
  go_enter Try.func19, Try.ntmps19
  go_wp2_with (fail)
  refine bodyPost_ret (ret_do rfl _ _ (w.heap.size + 1 + 1) (w.heap.size + 1 + 1 + 1) _ _ _ _ _ rfl (Blk.alloc (Blk.new' ((w.alloc _).alloc _) (by simp) _ _) _) rfl (Blk.new' (((w.alloc _).alloc _).alloc _) (by simp) _ _)) rfl ?_
  have U4 := ((((Up.refl w).alloc (.cells #[.slice A g.1.length c, .slice B g.2.length d] 25)).alloc (.cells #[.int .i64 11, .int .i64 h, .int .i64 i, .int .i64 k, .int .u64 vv, .int .i64 t, .int .i64 l, .int .u64 m] 30)).alloc (.cells #[.slice A g.1.length c, .slice B g.2.length d] 25)).alloc (.cells #[.int .i64 0, .int .u64 0, .bool false] 39)
  rw [HDO.out, if_pos (err11 rfl)]
  exact ⟨_, rfl, HG.out.up U4, U4⟩
set_option maxRecDepth 100000 in
set_option maxHeartbeats 4000000 in
theorem rdo_2 (v : Value) (g : Gr) (th h i k vv t l m : Int) (w : World) (hg : GrV w v g) (hR : Rg g) (hn : g.1.length ≤ 1000000) (hF : FitG g) (ht : isTh g th) (hv : U64 vv) (hm : U64 m) : Calls Try.prog 19 #[v, .int .i64 th, .agg #[.int .i64 2, .int .i64 h, .int .i64 i, .int .i64 k, .int .u64 vv, .int .i64 t, .int .i64 l, .int .u64 m]] w (DoPost (doG g th ⟨2, h, i, k, vv, t, l, m⟩) w) := by
  obtain ⟨A, c, B, d, rfl, m1, m2⟩ := hg.form
  obtain ⟨us, hr⟩ := GrR.of hg
  have d0 : decide (th < 0) = false := decide_eq_false (by have := ht.1; omega)
  have d1 : decide (th ≥ (g.2.length : Int)) = false := decide_eq_false (by have := ht.2; omega)
  have HDO : Hid (doG g th ⟨2, h, i, k, vv, t, l, m⟩ = if errG g th ⟨2, h, i, k, vv, t, l, m⟩ = 0 then (newG g th ⟨2, h, i, k, vv, t, l, m⟩, (0, ansV g th ⟨2, h, i, k, vv, t, l, m⟩, ansY g th ⟨2, h, i, k, vv, t, l, m⟩)) else (g, (errG g th ⟨2, h, i, k, vv, t, l, m⟩, 0, false))) := Lib.hid (by unfold doG; rw [if_pos ht])
  have HG := Lib.hid hg
  have HRR := Lib.hid hr
  have HNO := Lib.hid (fun W (u : Up w W) z => rno_any (.agg #[.slice A g.1.length c, .slice B g.2.length d]) g z W (hg.up u))
  have HFI := Lib.hid (fun W (u : Up w W) => rfield_any (.agg #[.slice A g.1.length c, .slice B g.2.length d]) g th 2 h i k vv t l m false W (hg.up u) hR ht)
  have HE := Lib.hid (rfe_S (g := g) (th := th) (o := ⟨2, h, i, k, vv, t, l, m⟩) (by simp))
  by_cases he : rfe g th ⟨2, h, i, k, vv, t, l, m⟩ false = 0
  · obtain ⟨y, i0, e1, e2, hy, hi, e3, e4, e5, e6⟩ := rf_in he
    change gtv (rowOf g th) h = (y : Int) + 1 at e1
    change i = (i0 : Int) at e2
    subst e2
    rw [he, e3] at HFI
    rw [he] at HE
    obtain ⟨p, pf, cf, rfl, z3, zf⟩ := hg.fd_at hy hi
    have hu0 : U64 ((ndOf g ((y : Int) + 1)).2.getD i0 0) := hR.fu _ (ndOf_mem ⟨by omega, by omega⟩) _ (getD_mem 0 hi)
    have hl16 := hR.len (n := (y : Int) + 1) ⟨by omega, by omega⟩
    have HVV := Lib.hid (show ansV g th ⟨2, h, (i0 : Int), k, vv, t, l, m⟩ = (ndOf g ((y : Int) + 1)).2.getD i0 0 from e6)
    have HX1 := Lib.hid (fun W (u : Up w W) => u.cell z3)
    have HX2 := Lib.hid (fun W (u : Up w W) => u.cell zf)
    have hlp := lt_of_cell z3
    have hlf := lt_of_cell zf
    generalize hold : (ndOf g ((y : Int) + 1)).2.getD i0 0 = old at *
    generalize hln : (ndOf g ((y : Int) + 1)).2.length = ln at *
    clear hold hln z3 zf e1 e3 e4 e5 e6 he
    clear hg hR hF ht hr hv hm
    go_enter Try.func19, Try.ntmps19
    go_wp2_with (fail)
    have B4 : Bxs w (.slice (some p) g.1.length c) (.slice B g.2.length d) ⟨2, h, (i0 : Int), k, vv, t, l, m⟩ ((((w.alloc (.cells #[.slice (some p) g.1.length c, .slice B g.2.length d] 25)).alloc (.cells #[.int .i64 2, .int .i64 h, .int .i64 (i0 : Int), .int .i64 k, .int .u64 vv, .int .i64 t, .int .i64 l, .int .u64 m] 30)).alloc (.cells #[.slice none 0 0, .slice none 0 0] 25)).alloc (.cells #[.int .i64 0, .int .u64 0, .bool false] 39)) :=
      ⟨(((Blk.new w _ _).alloc _).alloc _).alloc _, ((Blk.new' (w.alloc _) (by simp) _ _).alloc _).alloc _, Blk.alloc (Blk.new' ((w.alloc _).alloc _) (by simp) _ _) _, Blk.new' (((w.alloc _).alloc _).alloc _) (by simp) _ _, ((((Up.refl w).alloc _).alloc _).alloc _).alloc _, by simp⟩
    generalize ((((w.alloc (.cells #[.slice (some p) g.1.length c, .slice B g.2.length d] 25)).alloc (.cells #[.int .i64 2, .int .i64 h, .int .i64 (i0 : Int), .int .i64 k, .int .u64 vv, .int .i64 t, .int .i64 l, .int .u64 m] 30)).alloc (.cells #[.slice none 0 0, .slice none 0 0] 25)).alloc (.cells #[.int .i64 0, .int .u64 0, .bool false] 39)) = W4 at *
    refine (HFI.out _ B4.2.2.2.2.1).mono ?_
    rintro e w5 ⟨rfl, k5⟩
    have B5 := B4.up k5
    have gc := B5.1.cell
    have gl := B5.1.lt
    have oc : ∀ zi, _ = (#[.int .i64 2, .int .i64 h, .int .i64 (i0 : Int), .int .i64 k, .int .u64 vv, .int .i64 t, .int .i64 l, .int .u64 m] : Array Value)[zi]? := B5.2.1.cell
    have ol := B5.2.1.lt
    have rc := B5.2.2.1.cell
    have rf := B5.2.2.1.frozen
    have rl := B5.2.2.1.lt
    have ac := B5.2.2.2.1.cell
    have af := B5.2.2.2.1.frozen
    have al := B5.2.2.2.1.lt
    have zz3 := HX1.out _ B5.2.2.2.2.1
    have zzf := HX2.out _ B5.2.2.2.2.1
    have zl3 := B5.2.2.2.2.1.lt hlp
    have zlf := B5.2.2.2.2.1.lt hlf
    go_wp2_with (fail)
    go_quiet (fail)
    have B6 := B5.up ((Up.refl w5).drewN nq)
    clear zz3 zzf zl3 zlf
    clear gc gl oc ol rc rf rl ac af al
    have gc := B6.1.cell
    have gl := B6.1.lt
    have oc : ∀ zi, _ = (#[.int .i64 2, .int .i64 h, .int .i64 (i0 : Int), .int .i64 k, .int .u64 vv, .int .i64 t, .int .i64 l, .int .u64 m] : Array Value)[zi]? := B6.2.1.cell
    have ol := B6.2.1.lt
    have rc := B6.2.2.1.cell
    have rf := B6.2.2.1.frozen
    have rl := B6.2.2.1.lt
    have ac := B6.2.2.2.1.cell
    have af := B6.2.2.2.1.frozen
    have al := B6.2.2.2.1.lt
    go_wp2_with (fail)
    obtain ⟨x1, x2, x3, x4, x5, x6⟩ := B6
    refine bodyPost_ret (ret_do rfl _ _ (w.heap.size + 1 + 1) (w.heap.size + 1 + 1 + 1) (.slice (some p) g.1.length c) (.slice B g.2.length d) (.int .i64 0) (.int .u64 old) (.bool false) rfl (endG x3 x4) rfl (endA x3 x4)) rfl ?_
    rw [HDO.out, if_pos HE.out.symm]
    exact ⟨_, by rw [HVV.out]; rfl, HG.out.up (endU x5), endU x5⟩
  · obtain ⟨x, hx⟩ : ∃ x, rfe g th ⟨2, h, i, k, vv, t, l, m⟩ false = x := ⟨_, rfl⟩
    rw [hx] at HFI HE he
    have hb : (x != 0) = true := bne_iff_ne.2 he
    have HNE := Lib.hid he
    clear hx he
    clear hg hR hF ht hr hv hm
    go_enter Try.func19, Try.ntmps19
    go_wp2_with (fail)
    have B4 : Bxs w (.slice A g.1.length c) (.slice B g.2.length d) ⟨2, h, i, k, vv, t, l, m⟩ ((((w.alloc (.cells #[.slice A g.1.length c, .slice B g.2.length d] 25)).alloc (.cells #[.int .i64 2, .int .i64 h, .int .i64 i, .int .i64 k, .int .u64 vv, .int .i64 t, .int .i64 l, .int .u64 m] 30)).alloc (.cells #[.slice none 0 0, .slice none 0 0] 25)).alloc (.cells #[.int .i64 0, .int .u64 0, .bool false] 39)) :=
      ⟨(((Blk.new w _ _).alloc _).alloc _).alloc _, ((Blk.new' (w.alloc _) (by simp) _ _).alloc _).alloc _, Blk.alloc (Blk.new' ((w.alloc _).alloc _) (by simp) _ _) _, Blk.new' (((w.alloc _).alloc _).alloc _) (by simp) _ _, ((((Up.refl w).alloc _).alloc _).alloc _).alloc _, by simp⟩
    generalize ((((w.alloc (.cells #[.slice A g.1.length c, .slice B g.2.length d] 25)).alloc (.cells #[.int .i64 2, .int .i64 h, .int .i64 i, .int .i64 k, .int .u64 vv, .int .i64 t, .int .i64 l, .int .u64 m] 30)).alloc (.cells #[.slice none 0 0, .slice none 0 0] 25)).alloc (.cells #[.int .i64 0, .int .u64 0, .bool false] 39)) = W4 at *
    refine (HFI.out _ B4.2.2.2.2.1).mono ?_
    rintro e w5 ⟨rfl, k5⟩
    have B5 := B4.up k5
    have gc := B5.1.cell
    have gl := B5.1.lt
    have oc : ∀ zi, _ = (#[.int .i64 2, .int .i64 h, .int .i64 i, .int .i64 k, .int .u64 vv, .int .i64 t, .int .i64 l, .int .u64 m] : Array Value)[zi]? := B5.2.1.cell
    have ol := B5.2.1.lt
    have rc := B5.2.2.1.cell
    have rf := B5.2.2.1.frozen
    have rl := B5.2.2.1.lt
    have ac := B5.2.2.2.1.cell
    have af := B5.2.2.2.1.frozen
    have al := B5.2.2.2.1.lt
    go_wp2_with (fail)
    clear gc gl oc ol rc rf rl ac af al
    refine (HNO.out _ B5.2.2.2.2.1 x).mono ?_
    rintro e w6 ⟨rfl, k6⟩
    have B6 := B5.up k6
    have gc := B6.1.cell
    have gl := B6.1.lt
    have oc : ∀ zi, _ = (#[.int .i64 2, .int .i64 h, .int .i64 i, .int .i64 k, .int .u64 vv, .int .i64 t, .int .i64 l, .int .u64 m] : Array Value)[zi]? := B6.2.1.cell
    have ol := B6.2.1.lt
    have rc := B6.2.2.1.cell
    have rf := B6.2.2.1.frozen
    have rl := B6.2.2.1.lt
    have ac := B6.2.2.2.1.cell
    have af := B6.2.2.2.1.frozen
    have al := B6.2.2.2.1.lt
    go_wp2_with (fail)
    obtain ⟨x1, x2, x3, x4, x5, x6⟩ := B6
    refine bodyPost_ret (ret_do rfl _ _ (w.heap.size + 1 + 1) (w.heap.size + 1 + 1 + 1) (.slice A g.1.length c) (.slice B g.2.length d) (.int .i64 (x)) (.int .u64 0) (.bool false) rfl (endG x3 x4) rfl (endA x3 x4)) rfl ?_
    rw [HDO.out, ← HE.out, if_neg HNE.out]
    exact ⟨_, rfl, HG.out.up (endU x5), endU x5⟩
set_option maxRecDepth 100000 in
set_option maxHeartbeats 4000000 in
theorem rdo_4 (v : Value) (g : Gr) (th h i k vv t l m : Int) (w : World) (hg : GrV w v g) (hR : Rg g) (hn : g.1.length ≤ 1000000) (hF : FitG g) (ht : isTh g th) (hv : U64 vv) (hm : U64 m) : Calls Try.prog 19 #[v, .int .i64 th, .agg #[.int .i64 4, .int .i64 h, .int .i64 i, .int .i64 k, .int .u64 vv, .int .i64 t, .int .i64 l, .int .u64 m]] w (DoPost (doG g th ⟨4, h, i, k, vv, t, l, m⟩) w) := by
  obtain ⟨A, c, B, d, rfl, m1, m2⟩ := hg.form
  obtain ⟨us, hr⟩ := GrR.of hg
  have d0 : decide (th < 0) = false := decide_eq_false (by have := ht.1; omega)
  have d1 : decide (th ≥ (g.2.length : Int)) = false := decide_eq_false (by have := ht.2; omega)
  have HDO : Hid (doG g th ⟨4, h, i, k, vv, t, l, m⟩ = if errG g th ⟨4, h, i, k, vv, t, l, m⟩ = 0 then (newG g th ⟨4, h, i, k, vv, t, l, m⟩, (0, ansV g th ⟨4, h, i, k, vv, t, l, m⟩, ansY g th ⟨4, h, i, k, vv, t, l, m⟩)) else (g, (errG g th ⟨4, h, i, k, vv, t, l, m⟩, 0, false))) := Lib.hid (by unfold doG; rw [if_pos ht])
  have HG := Lib.hid hg
  have HRR := Lib.hid hr
  have HNO := Lib.hid (fun W (u : Up w W) z => rno_any (.agg #[.slice A g.1.length c, .slice B g.2.length d]) g z W (hg.up u))
  have HFI := Lib.hid (fun W (u : Up w W) => rfield_any (.agg #[.slice A g.1.length c, .slice B g.2.length d]) g th 4 h i k vv t l m false W (hg.up u) hR ht)
  have HE := Lib.hid (rfe_S (g := g) (th := th) (o := ⟨4, h, i, k, vv, t, l, m⟩) (by simp))
  by_cases he : rfe g th ⟨4, h, i, k, vv, t, l, m⟩ false = 0
  · obtain ⟨y, i0, e1, e2, hy, hi, e3, e4, e5, e6⟩ := rf_in he
    change gtv (rowOf g th) h = (y : Int) + 1 at e1
    change i = (i0 : Int) at e2
    subst e2
    rw [he, e3] at HFI
    rw [he] at HE
    obtain ⟨p, pf, cf, rfl, z3, zf⟩ := hg.fd_at hy hi
    have hu0 : U64 ((ndOf g ((y : Int) + 1)).2.getD i0 0) := hR.fu _ (ndOf_mem ⟨by omega, by omega⟩) _ (getD_mem 0 hi)
    have hl16 := hR.len (n := (y : Int) + 1) ⟨by omega, by omega⟩
    have HST := Lib.hid (fun W (u : Up w W) x => rset_any (some p) B c d g.1.length g.2.length us g y i0 x w W u (hr W) hF hy hi)
    have HNW : Hid (∀ x, wrv g th ⟨4, h, (i0 : Int), k, vv, t, l, m⟩ = x → newG g th ⟨4, h, (i0 : Int), k, vv, t, l, m⟩ = setF g ((y : Int) + 1) i0 x) := Lib.hid (fun x hx => by
      show setF g (gtv (rowOf g th) h) ((i0 : Int)).toNat (wrv g th ⟨4, h, (i0 : Int), k, vv, t, l, m⟩) = _
      rw [e1, hx, Int.toNat_natCast])
    have HWR : Hid (wrv g th ⟨4, h, (i0 : Int), k, vv, t, l, m⟩ = vv) := Lib.hid (by
      show vv = _
      rfl)
    have HX1 := Lib.hid (fun W (u : Up w W) => u.cell z3)
    have HX2 := Lib.hid (fun W (u : Up w W) => u.cell zf)
    have hlp := lt_of_cell z3
    have hlf := lt_of_cell zf
    generalize hold : (ndOf g ((y : Int) + 1)).2.getD i0 0 = old at *
    generalize hln : (ndOf g ((y : Int) + 1)).2.length = ln at *
    clear hold hln z3 zf e1 e3 e4 e5 e6 he
    clear hg hR hF ht hr hv hm
    go_enter Try.func19, Try.ntmps19
    go_wp2_with (fail)
    have B4 : Bxs w (.slice (some p) g.1.length c) (.slice B g.2.length d) ⟨4, h, (i0 : Int), k, vv, t, l, m⟩ ((((w.alloc (.cells #[.slice (some p) g.1.length c, .slice B g.2.length d] 25)).alloc (.cells #[.int .i64 4, .int .i64 h, .int .i64 (i0 : Int), .int .i64 k, .int .u64 vv, .int .i64 t, .int .i64 l, .int .u64 m] 30)).alloc (.cells #[.slice none 0 0, .slice none 0 0] 25)).alloc (.cells #[.int .i64 0, .int .u64 0, .bool false] 39)) :=
      ⟨(((Blk.new w _ _).alloc _).alloc _).alloc _, ((Blk.new' (w.alloc _) (by simp) _ _).alloc _).alloc _, Blk.alloc (Blk.new' ((w.alloc _).alloc _) (by simp) _ _) _, Blk.new' (((w.alloc _).alloc _).alloc _) (by simp) _ _, ((((Up.refl w).alloc _).alloc _).alloc _).alloc _, by simp⟩
    generalize ((((w.alloc (.cells #[.slice (some p) g.1.length c, .slice B g.2.length d] 25)).alloc (.cells #[.int .i64 4, .int .i64 h, .int .i64 (i0 : Int), .int .i64 k, .int .u64 vv, .int .i64 t, .int .i64 l, .int .u64 m] 30)).alloc (.cells #[.slice none 0 0, .slice none 0 0] 25)).alloc (.cells #[.int .i64 0, .int .u64 0, .bool false] 39)) = W4 at *
    refine (HFI.out _ B4.2.2.2.2.1).mono ?_
    rintro e w5 ⟨rfl, k5⟩
    have B5 := B4.up k5
    have gc := B5.1.cell
    have gl := B5.1.lt
    have oc : ∀ zi, _ = (#[.int .i64 4, .int .i64 h, .int .i64 (i0 : Int), .int .i64 k, .int .u64 vv, .int .i64 t, .int .i64 l, .int .u64 m] : Array Value)[zi]? := B5.2.1.cell
    have ol := B5.2.1.lt
    have rc := B5.2.2.1.cell
    have rf := B5.2.2.1.frozen
    have rl := B5.2.2.1.lt
    have ac := B5.2.2.2.1.cell
    have af := B5.2.2.2.1.frozen
    have al := B5.2.2.2.1.lt
    have zz3 := HX1.out _ B5.2.2.2.2.1
    have zzf := HX2.out _ B5.2.2.2.2.1
    have zl3 := B5.2.2.2.2.1.lt hlp
    have zlf := B5.2.2.2.2.1.lt hlf
    go_wp2_with (fail)
    go_quiet (fail)
    have B6 := B5.up ((Up.refl w5).drewN nq)
    clear zz3 zzf zl3 zlf
    clear gc gl oc ol rc rf rl ac af al
    generalize hnq : w5.drewN nq = w6 at *
    clear hnq
    have gc := B6.1.cell
    have gl := B6.1.lt
    have oc : ∀ zi, _ = (#[.int .i64 4, .int .i64 h, .int .i64 (i0 : Int), .int .i64 k, .int .u64 vv, .int .i64 t, .int .i64 l, .int .u64 m] : Array Value)[zi]? := B6.2.1.cell
    have ol := B6.2.1.lt
    have rc := B6.2.2.1.cell
    have rf := B6.2.2.1.frozen
    have rl := B6.2.2.1.lt
    have ac := B6.2.2.2.1.cell
    have af := B6.2.2.2.1.frozen
    have al := B6.2.2.2.1.lt
    go_wp2_with (fail)
    clear gc gl oc ol rc rf rl ac af al
    refine (HST.out _ B6.2.2.2.2.1 _).mono ?_
    rintro e w8 ⟨A8, n8, c8, C8, s8, d8, us8, rfl, hr8, k8⟩
    have B8 := B6.up k8
    have gc := B8.1.cell
    have gl := B8.1.lt
    have oc : ∀ zi, _ = (#[.int .i64 4, .int .i64 h, .int .i64 (i0 : Int), .int .i64 k, .int .u64 vv, .int .i64 t, .int .i64 l, .int .u64 m] : Array Value)[zi]? := B8.2.1.cell
    have ol := B8.2.1.lt
    have rc := B8.2.2.1.cell
    have rf := B8.2.2.1.frozen
    have rl := B8.2.2.1.lt
    have ac := B8.2.2.2.1.cell
    have af := B8.2.2.2.1.frozen
    have al := B8.2.2.2.1.lt
    have HR8 := Lib.hid hr8
    clear hr8
    go_wp2_with (fail)
    have BK := B8
    obtain ⟨x1, x2, x3, x4, x5, x6⟩ := B8
    refine bodyPost_ret (ret_do rfl _ _ (w.heap.size + 1 + 1) (w.heap.size + 1 + 1 + 1) (.slice A8 n8 c8) (.slice C8 s8 d8) (.int .i64 0) (.int .u64 0) (.bool false) rfl (endG x3 x4) rfl (endA x3 x4)) rfl ?_
    rw [HDO.out, if_pos HE.out.symm]
    exact ⟨_, rfl, by rw [HNW.out _ HWR.out]; exact HR8.out.gr (endK BK), endU x5⟩
  · obtain ⟨x, hx⟩ : ∃ x, rfe g th ⟨4, h, i, k, vv, t, l, m⟩ false = x := ⟨_, rfl⟩
    rw [hx] at HFI HE he
    have hb : (x != 0) = true := bne_iff_ne.2 he
    have HNE := Lib.hid he
    clear hx he
    clear hg hR hF ht hr hv hm
    go_enter Try.func19, Try.ntmps19
    go_wp2_with (fail)
    have B4 : Bxs w (.slice A g.1.length c) (.slice B g.2.length d) ⟨4, h, i, k, vv, t, l, m⟩ ((((w.alloc (.cells #[.slice A g.1.length c, .slice B g.2.length d] 25)).alloc (.cells #[.int .i64 4, .int .i64 h, .int .i64 i, .int .i64 k, .int .u64 vv, .int .i64 t, .int .i64 l, .int .u64 m] 30)).alloc (.cells #[.slice none 0 0, .slice none 0 0] 25)).alloc (.cells #[.int .i64 0, .int .u64 0, .bool false] 39)) :=
      ⟨(((Blk.new w _ _).alloc _).alloc _).alloc _, ((Blk.new' (w.alloc _) (by simp) _ _).alloc _).alloc _, Blk.alloc (Blk.new' ((w.alloc _).alloc _) (by simp) _ _) _, Blk.new' (((w.alloc _).alloc _).alloc _) (by simp) _ _, ((((Up.refl w).alloc _).alloc _).alloc _).alloc _, by simp⟩
    generalize ((((w.alloc (.cells #[.slice A g.1.length c, .slice B g.2.length d] 25)).alloc (.cells #[.int .i64 4, .int .i64 h, .int .i64 i, .int .i64 k, .int .u64 vv, .int .i64 t, .int .i64 l, .int .u64 m] 30)).alloc (.cells #[.slice none 0 0, .slice none 0 0] 25)).alloc (.cells #[.int .i64 0, .int .u64 0, .bool false] 39)) = W4 at *
    refine (HFI.out _ B4.2.2.2.2.1).mono ?_
    rintro e w5 ⟨rfl, k5⟩
    have B5 := B4.up k5
    have gc := B5.1.cell
    have gl := B5.1.lt
    have oc : ∀ zi, _ = (#[.int .i64 4, .int .i64 h, .int .i64 i, .int .i64 k, .int .u64 vv, .int .i64 t, .int .i64 l, .int .u64 m] : Array Value)[zi]? := B5.2.1.cell
    have ol := B5.2.1.lt
    have rc := B5.2.2.1.cell
    have rf := B5.2.2.1.frozen
    have rl := B5.2.2.1.lt
    have ac := B5.2.2.2.1.cell
    have af := B5.2.2.2.1.frozen
    have al := B5.2.2.2.1.lt
    go_wp2_with (fail)
    clear gc gl oc ol rc rf rl ac af al
    refine (HNO.out _ B5.2.2.2.2.1 x).mono ?_
    rintro e w6 ⟨rfl, k6⟩
    have B6 := B5.up k6
    have gc := B6.1.cell
    have gl := B6.1.lt
    have oc : ∀ zi, _ = (#[.int .i64 4, .int .i64 h, .int .i64 i, .int .i64 k, .int .u64 vv, .int .i64 t, .int .i64 l, .int .u64 m] : Array Value)[zi]? := B6.2.1.cell
    have ol := B6.2.1.lt
    have rc := B6.2.2.1.cell
    have rf := B6.2.2.1.frozen
    have rl := B6.2.2.1.lt
    have ac := B6.2.2.2.1.cell
    have af := B6.2.2.2.1.frozen
    have al := B6.2.2.2.1.lt
    go_wp2_with (fail)
    obtain ⟨x1, x2, x3, x4, x5, x6⟩ := B6
    refine bodyPost_ret (ret_do rfl _ _ (w.heap.size + 1 + 1) (w.heap.size + 1 + 1 + 1) (.slice A g.1.length c) (.slice B g.2.length d) (.int .i64 (x)) (.int .u64 0) (.bool false) rfl (endG x3 x4) rfl (endA x3 x4)) rfl ?_
    rw [HDO.out, ← HE.out, if_neg HNE.out]
    exact ⟨_, rfl, HG.out.up (endU x5), endU x5⟩
set_option maxRecDepth 100000 in
set_option maxHeartbeats 4000000 in
theorem rdo_6 (v : Value) (g : Gr) (th h i k vv t l m : Int) (w : World) (hg : GrV w v g) (hR : Rg g) (hn : g.1.length ≤ 1000000) (hF : FitG g) (ht : isTh g th) (hv : U64 vv) (hm : U64 m) : Calls Try.prog 19 #[v, .int .i64 th, .agg #[.int .i64 6, .int .i64 h, .int .i64 i, .int .i64 k, .int .u64 vv, .int .i64 t, .int .i64 l, .int .u64 m]] w (DoPost (doG g th ⟨6, h, i, k, vv, t, l, m⟩) w) := by
  obtain ⟨A, c, B, d, rfl, m1, m2⟩ := hg.form
  obtain ⟨us, hr⟩ := GrR.of hg
  have d0 : decide (th < 0) = false := decide_eq_false (by have := ht.1; omega)
  have d1 : decide (th ≥ (g.2.length : Int)) = false := decide_eq_false (by have := ht.2; omega)
  have HDO : Hid (doG g th ⟨6, h, i, k, vv, t, l, m⟩ = if errG g th ⟨6, h, i, k, vv, t, l, m⟩ = 0 then (newG g th ⟨6, h, i, k, vv, t, l, m⟩, (0, ansV g th ⟨6, h, i, k, vv, t, l, m⟩, ansY g th ⟨6, h, i, k, vv, t, l, m⟩)) else (g, (errG g th ⟨6, h, i, k, vv, t, l, m⟩, 0, false))) := Lib.hid (by unfold doG; rw [if_pos ht])
  have HG := Lib.hid hg
  have HRR := Lib.hid hr
  have HNO := Lib.hid (fun W (u : Up w W) z => rno_any (.agg #[.slice A g.1.length c, .slice B g.2.length d]) g z W (hg.up u))
  have HFI := Lib.hid (fun W (u : Up w W) => rfield_any (.agg #[.slice A g.1.length c, .slice B g.2.length d]) g th 6 h i k vv t l m false W (hg.up u) hR ht)
  have HE := Lib.hid (rfe_S (g := g) (th := th) (o := ⟨6, h, i, k, vv, t, l, m⟩) (by simp))
  by_cases he : rfe g th ⟨6, h, i, k, vv, t, l, m⟩ false = 0
  · obtain ⟨y, i0, e1, e2, hy, hi, e3, e4, e5, e6⟩ := rf_in he
    change gtv (rowOf g th) h = (y : Int) + 1 at e1
    change i = (i0 : Int) at e2
    subst e2
    rw [he, e3] at HFI
    rw [he] at HE
    obtain ⟨p, pf, cf, rfl, z3, zf⟩ := hg.fd_at hy hi
    have hu0 : U64 ((ndOf g ((y : Int) + 1)).2.getD i0 0) := hR.fu _ (ndOf_mem ⟨by omega, by omega⟩) _ (getD_mem 0 hi)
    have hl16 := hR.len (n := (y : Int) + 1) ⟨by omega, by omega⟩
    have HST := Lib.hid (fun W (u : Up w W) x => rset_any (some p) B c d g.1.length g.2.length us g y i0 x w W u (hr W) hF hy hi)
    have HNW : Hid (∀ x, wrv g th ⟨6, h, (i0 : Int), k, vv, t, l, m⟩ = x → newG g th ⟨6, h, (i0 : Int), k, vv, t, l, m⟩ = setF g ((y : Int) + 1) i0 x) := Lib.hid (fun x hx => by
      show setF g (gtv (rowOf g th) h) ((i0 : Int)).toNat (wrv g th ⟨6, h, (i0 : Int), k, vv, t, l, m⟩) = _
      rw [e1, hx, Int.toNat_natCast])
    have HWR : Hid (wrv g th ⟨6, h, (i0 : Int), k, vv, t, l, m⟩ = Nm.addw ((ndOf g ((y : Int) + 1)).2.getD i0 0) vv) := Lib.hid (by
      show Nm.addw (fwd g th ⟨6, h, (i0 : Int), k, vv, t, l, m⟩) vv = _
      rw [e6])
    have HAD := Lib.hid (fun W => Nm.radd ((ndOf g ((y : Int) + 1)).2.getD i0 0) vv hu0.1 hv.1 hu0.2 hv.2 W)
    have HX1 := Lib.hid (fun W (u : Up w W) => u.cell z3)
    have HX2 := Lib.hid (fun W (u : Up w W) => u.cell zf)
    have hlp := lt_of_cell z3
    have hlf := lt_of_cell zf
    generalize hold : (ndOf g ((y : Int) + 1)).2.getD i0 0 = old at *
    generalize hln : (ndOf g ((y : Int) + 1)).2.length = ln at *
    clear hold hln z3 zf e1 e3 e4 e5 e6 he
    clear hg hR hF ht hr hv hm
    go_enter Try.func19, Try.ntmps19
    go_wp2_with (fail)
    have B4 : Bxs w (.slice (some p) g.1.length c) (.slice B g.2.length d) ⟨6, h, (i0 : Int), k, vv, t, l, m⟩ ((((w.alloc (.cells #[.slice (some p) g.1.length c, .slice B g.2.length d] 25)).alloc (.cells #[.int .i64 6, .int .i64 h, .int .i64 (i0 : Int), .int .i64 k, .int .u64 vv, .int .i64 t, .int .i64 l, .int .u64 m] 30)).alloc (.cells #[.slice none 0 0, .slice none 0 0] 25)).alloc (.cells #[.int .i64 0, .int .u64 0, .bool false] 39)) :=
      ⟨(((Blk.new w _ _).alloc _).alloc _).alloc _, ((Blk.new' (w.alloc _) (by simp) _ _).alloc _).alloc _, Blk.alloc (Blk.new' ((w.alloc _).alloc _) (by simp) _ _) _, Blk.new' (((w.alloc _).alloc _).alloc _) (by simp) _ _, ((((Up.refl w).alloc _).alloc _).alloc _).alloc _, by simp⟩
    generalize ((((w.alloc (.cells #[.slice (some p) g.1.length c, .slice B g.2.length d] 25)).alloc (.cells #[.int .i64 6, .int .i64 h, .int .i64 (i0 : Int), .int .i64 k, .int .u64 vv, .int .i64 t, .int .i64 l, .int .u64 m] 30)).alloc (.cells #[.slice none 0 0, .slice none 0 0] 25)).alloc (.cells #[.int .i64 0, .int .u64 0, .bool false] 39)) = W4 at *
    refine (HFI.out _ B4.2.2.2.2.1).mono ?_
    rintro e w5 ⟨rfl, k5⟩
    have B5 := B4.up k5
    have gc := B5.1.cell
    have gl := B5.1.lt
    have oc : ∀ zi, _ = (#[.int .i64 6, .int .i64 h, .int .i64 (i0 : Int), .int .i64 k, .int .u64 vv, .int .i64 t, .int .i64 l, .int .u64 m] : Array Value)[zi]? := B5.2.1.cell
    have ol := B5.2.1.lt
    have rc := B5.2.2.1.cell
    have rf := B5.2.2.1.frozen
    have rl := B5.2.2.1.lt
    have ac := B5.2.2.2.1.cell
    have af := B5.2.2.2.1.frozen
    have al := B5.2.2.2.1.lt
    have zz3 := HX1.out _ B5.2.2.2.2.1
    have zzf := HX2.out _ B5.2.2.2.2.1
    have zl3 := B5.2.2.2.2.1.lt hlp
    have zlf := B5.2.2.2.2.1.lt hlf
    go_wp2_with (fail)
    go_quiet (fail)
    have B6 := B5.up ((Up.refl w5).drewN nq)
    clear zz3 zzf zl3 zlf
    clear gc gl oc ol rc rf rl ac af al
    generalize hnq : w5.drewN nq = w6 at *
    clear hnq
    have gc := B6.1.cell
    have gl := B6.1.lt
    have oc : ∀ zi, _ = (#[.int .i64 6, .int .i64 h, .int .i64 (i0 : Int), .int .i64 k, .int .u64 vv, .int .i64 t, .int .i64 l, .int .u64 m] : Array Value)[zi]? := B6.2.1.cell
    have ol := B6.2.1.lt
    have rc := B6.2.2.1.cell
    have rf := B6.2.2.1.frozen
    have rl := B6.2.2.1.lt
    have ac := B6.2.2.2.1.cell
    have af := B6.2.2.2.1.frozen
    have al := B6.2.2.2.1.lt
    go_wp2_with (fail)
    clear gc gl oc ol rc rf rl ac af al
    refine (HAD.out _).mono ?_
    rintro e w7 ⟨rfl, k7⟩
    have B7 := B6.up (show Up w6 w7 from k7 ▸ Up.refl w6)
    clear k7
    have gc := B7.1.cell
    have gl := B7.1.lt
    have oc : ∀ zi, _ = (#[.int .i64 6, .int .i64 h, .int .i64 (i0 : Int), .int .i64 k, .int .u64 vv, .int .i64 t, .int .i64 l, .int .u64 m] : Array Value)[zi]? := B7.2.1.cell
    have ol := B7.2.1.lt
    have rc := B7.2.2.1.cell
    have rf := B7.2.2.1.frozen
    have rl := B7.2.2.1.lt
    have ac := B7.2.2.2.1.cell
    have af := B7.2.2.2.1.frozen
    have al := B7.2.2.2.1.lt
    go_wp2_with (fail)
    clear gc gl oc ol rc rf rl ac af al
    refine (HST.out _ B7.2.2.2.2.1 _).mono ?_
    rintro e w8 ⟨A8, n8, c8, C8, s8, d8, us8, rfl, hr8, k8⟩
    have B8 := B7.up k8
    have gc := B8.1.cell
    have gl := B8.1.lt
    have oc : ∀ zi, _ = (#[.int .i64 6, .int .i64 h, .int .i64 (i0 : Int), .int .i64 k, .int .u64 vv, .int .i64 t, .int .i64 l, .int .u64 m] : Array Value)[zi]? := B8.2.1.cell
    have ol := B8.2.1.lt
    have rc := B8.2.2.1.cell
    have rf := B8.2.2.1.frozen
    have rl := B8.2.2.1.lt
    have ac := B8.2.2.2.1.cell
    have af := B8.2.2.2.1.frozen
    have al := B8.2.2.2.1.lt
    have HR8 := Lib.hid hr8
    clear hr8
    go_wp2_with (fail)
    have BK := B8
    obtain ⟨x1, x2, x3, x4, x5, x6⟩ := B8
    refine bodyPost_ret (ret_do rfl _ _ (w.heap.size + 1 + 1) (w.heap.size + 1 + 1 + 1) (.slice A8 n8 c8) (.slice C8 s8 d8) (.int .i64 0) (.int .u64 0) (.bool false) rfl (endG x3 x4) rfl (endA x3 x4)) rfl ?_
    rw [HDO.out, if_pos HE.out.symm]
    exact ⟨_, rfl, by rw [HNW.out _ HWR.out]; exact HR8.out.gr (endK BK), endU x5⟩
  · obtain ⟨x, hx⟩ : ∃ x, rfe g th ⟨6, h, i, k, vv, t, l, m⟩ false = x := ⟨_, rfl⟩
    rw [hx] at HFI HE he
    have hb : (x != 0) = true := bne_iff_ne.2 he
    have HNE := Lib.hid he
    clear hx he
    clear hg hR hF ht hr hv hm
    go_enter Try.func19, Try.ntmps19
    go_wp2_with (fail)
    have B4 : Bxs w (.slice A g.1.length c) (.slice B g.2.length d) ⟨6, h, i, k, vv, t, l, m⟩ ((((w.alloc (.cells #[.slice A g.1.length c, .slice B g.2.length d] 25)).alloc (.cells #[.int .i64 6, .int .i64 h, .int .i64 i, .int .i64 k, .int .u64 vv, .int .i64 t, .int .i64 l, .int .u64 m] 30)).alloc (.cells #[.slice none 0 0, .slice none 0 0] 25)).alloc (.cells #[.int .i64 0, .int .u64 0, .bool false] 39)) :=
      ⟨(((Blk.new w _ _).alloc _).alloc _).alloc _, ((Blk.new' (w.alloc _) (by simp) _ _).alloc _).alloc _, Blk.alloc (Blk.new' ((w.alloc _).alloc _) (by simp) _ _) _, Blk.new' (((w.alloc _).alloc _).alloc _) (by simp) _ _, ((((Up.refl w).alloc _).alloc _).alloc _).alloc _, by simp⟩
    generalize ((((w.alloc (.cells #[.slice A g.1.length c, .slice B g.2.length d] 25)).alloc (.cells #[.int .i64 6, .int .i64 h, .int .i64 i, .int .i64 k, .int .u64 vv, .int .i64 t, .int .i64 l, .int .u64 m] 30)).alloc (.cells #[.slice none 0 0, .slice none 0 0] 25)).alloc (.cells #[.int .i64 0, .int .u64 0, .bool false] 39)) = W4 at *
    refine (HFI.out _ B4.2.2.2.2.1).mono ?_
    rintro e w5 ⟨rfl, k5⟩
    have B5 := B4.up k5
    have gc := B5.1.cell
    have gl := B5.1.lt
    have oc : ∀ zi, _ = (#[.int .i64 6, .int .i64 h, .int .i64 i, .int .i64 k, .int .u64 vv, .int .i64 t, .int .i64 l, .int .u64 m] : Array Value)[zi]? := B5.2.1.cell
    have ol := B5.2.1.lt
    have rc := B5.2.2.1.cell
    have rf := B5.2.2.1.frozen
    have rl := B5.2.2.1.lt
    have ac := B5.2.2.2.1.cell
    have af := B5.2.2.2.1.frozen
    have al := B5.2.2.2.1.lt
    go_wp2_with (fail)
    clear gc gl oc ol rc rf rl ac af al
    refine (HNO.out _ B5.2.2.2.2.1 x).mono ?_
    rintro e w6 ⟨rfl, k6⟩
    have B6 := B5.up k6
    have gc := B6.1.cell
    have gl := B6.1.lt
    have oc : ∀ zi, _ = (#[.int .i64 6, .int .i64 h, .int .i64 i, .int .i64 k, .int .u64 vv, .int .i64 t, .int .i64 l, .int .u64 m] : Array Value)[zi]? := B6.2.1.cell
    have ol := B6.2.1.lt
    have rc := B6.2.2.1.cell
    have rf := B6.2.2.1.frozen
    have rl := B6.2.2.1.lt
    have ac := B6.2.2.2.1.cell
    have af := B6.2.2.2.1.frozen
    have al := B6.2.2.2.1.lt
    go_wp2_with (fail)
    obtain ⟨x1, x2, x3, x4, x5, x6⟩ := B6
    refine bodyPost_ret (ret_do rfl _ _ (w.heap.size + 1 + 1) (w.heap.size + 1 + 1 + 1) (.slice A g.1.length c) (.slice B g.2.length d) (.int .i64 (x)) (.int .u64 0) (.bool false) rfl (endG x3 x4) rfl (endA x3 x4)) rfl ?_
    rw [HDO.out, ← HE.out, if_neg HNE.out]
    exact ⟨_, rfl, HG.out.up (endU x5), endU x5⟩
set_option maxRecDepth 100000 in
set_option maxHeartbeats 4000000 in
theorem rdo_7 (v : Value) (g : Gr) (th h i k vv t l m : Int) (w : World) (hg : GrV w v g) (hR : Rg g) (hn : g.1.length ≤ 1000000) (hF : FitG g) (ht : isTh g th) (hv : U64 vv) (hm : U64 m) : Calls Try.prog 19 #[v, .int .i64 th, .agg #[.int .i64 7, .int .i64 h, .int .i64 i, .int .i64 k, .int .u64 vv, .int .i64 t, .int .i64 l, .int .u64 m]] w (DoPost (doG g th ⟨7, h, i, k, vv, t, l, m⟩) w) := by
  obtain ⟨A, c, B, d, rfl, m1, m2⟩ := hg.form
  obtain ⟨us, hr⟩ := GrR.of hg
  have d0 : decide (th < 0) = false := decide_eq_false (by have := ht.1; omega)
  have d1 : decide (th ≥ (g.2.length : Int)) = false := decide_eq_false (by have := ht.2; omega)
  have HDO : Hid (doG g th ⟨7, h, i, k, vv, t, l, m⟩ = if errG g th ⟨7, h, i, k, vv, t, l, m⟩ = 0 then (newG g th ⟨7, h, i, k, vv, t, l, m⟩, (0, ansV g th ⟨7, h, i, k, vv, t, l, m⟩, ansY g th ⟨7, h, i, k, vv, t, l, m⟩)) else (g, (errG g th ⟨7, h, i, k, vv, t, l, m⟩, 0, false))) := Lib.hid (by unfold doG; rw [if_pos ht])
  have HG := Lib.hid hg
  have HRR := Lib.hid hr
  have HNO := Lib.hid (fun W (u : Up w W) z => rno_any (.agg #[.slice A g.1.length c, .slice B g.2.length d]) g z W (hg.up u))
  have HFI := Lib.hid (fun W (u : Up w W) => rfield_any (.agg #[.slice A g.1.length c, .slice B g.2.length d]) g th 7 h i k vv t l m false W (hg.up u) hR ht)
  have HE := Lib.hid (rfe_S (g := g) (th := th) (o := ⟨7, h, i, k, vv, t, l, m⟩) (by simp))
  by_cases he : rfe g th ⟨7, h, i, k, vv, t, l, m⟩ false = 0
  · obtain ⟨y, i0, e1, e2, hy, hi, e3, e4, e5, e6⟩ := rf_in he
    change gtv (rowOf g th) h = (y : Int) + 1 at e1
    change i = (i0 : Int) at e2
    subst e2
    rw [he, e3] at HFI
    rw [he] at HE
    obtain ⟨p, pf, cf, rfl, z3, zf⟩ := hg.fd_at hy hi
    have hu0 : U64 ((ndOf g ((y : Int) + 1)).2.getD i0 0) := hR.fu _ (ndOf_mem ⟨by omega, by omega⟩) _ (getD_mem 0 hi)
    have hl16 := hR.len (n := (y : Int) + 1) ⟨by omega, by omega⟩
    have HST := Lib.hid (fun W (u : Up w W) x => rset_any (some p) B c d g.1.length g.2.length us g y i0 x w W u (hr W) hF hy hi)
    have HNW : Hid (∀ x, wrv g th ⟨7, h, (i0 : Int), k, vv, t, l, m⟩ = x → newG g th ⟨7, h, (i0 : Int), k, vv, t, l, m⟩ = setF g ((y : Int) + 1) i0 x) := Lib.hid (fun x hx => by
      show setF g (gtv (rowOf g th) h) ((i0 : Int)).toNat (wrv g th ⟨7, h, (i0 : Int), k, vv, t, l, m⟩) = _
      rw [e1, hx, Int.toNat_natCast])
    have HWR : Hid (wrv g th ⟨7, h, (i0 : Int), k, vv, t, l, m⟩ = Nm.mulw ((ndOf g ((y : Int) + 1)).2.getD i0 0) vv) := Lib.hid (by
      show Nm.mulw (fwd g th ⟨7, h, (i0 : Int), k, vv, t, l, m⟩) vv = _
      rw [e6])
    have HAD := Lib.hid (fun W => Nm.rmul ((ndOf g ((y : Int) + 1)).2.getD i0 0) vv hu0.1 hv.1 hu0.2 hv.2 W)
    have HX1 := Lib.hid (fun W (u : Up w W) => u.cell z3)
    have HX2 := Lib.hid (fun W (u : Up w W) => u.cell zf)
    have hlp := lt_of_cell z3
    have hlf := lt_of_cell zf
    generalize hold : (ndOf g ((y : Int) + 1)).2.getD i0 0 = old at *
    generalize hln : (ndOf g ((y : Int) + 1)).2.length = ln at *
    clear hold hln z3 zf e1 e3 e4 e5 e6 he
    clear hg hR hF ht hr hv hm
    go_enter Try.func19, Try.ntmps19
    go_wp2_with (fail)
    have B4 : Bxs w (.slice (some p) g.1.length c) (.slice B g.2.length d) ⟨7, h, (i0 : Int), k, vv, t, l, m⟩ ((((w.alloc (.cells #[.slice (some p) g.1.length c, .slice B g.2.length d] 25)).alloc (.cells #[.int .i64 7, .int .i64 h, .int .i64 (i0 : Int), .int .i64 k, .int .u64 vv, .int .i64 t, .int .i64 l, .int .u64 m] 30)).alloc (.cells #[.slice none 0 0, .slice none 0 0] 25)).alloc (.cells #[.int .i64 0, .int .u64 0, .bool false] 39)) :=
      ⟨(((Blk.new w _ _).alloc _).alloc _).alloc _, ((Blk.new' (w.alloc _) (by simp) _ _).alloc _).alloc _, Blk.alloc (Blk.new' ((w.alloc _).alloc _) (by simp) _ _) _, Blk.new' (((w.alloc _).alloc _).alloc _) (by simp) _ _, ((((Up.refl w).alloc _).alloc _).alloc _).alloc _, by simp⟩
    generalize ((((w.alloc (.cells #[.slice (some p) g.1.length c, .slice B g.2.length d] 25)).alloc (.cells #[.int .i64 7, .int .i64 h, .int .i64 (i0 : Int), .int .i64 k, .int .u64 vv, .int .i64 t, .int .i64 l, .int .u64 m] 30)).alloc (.cells #[.slice none 0 0, .slice none 0 0] 25)).alloc (.cells #[.int .i64 0, .int .u64 0, .bool false] 39)) = W4 at *
    refine (HFI.out _ B4.2.2.2.2.1).mono ?_
    rintro e w5 ⟨rfl, k5⟩
    have B5 := B4.up k5
    have gc := B5.1.cell
    have gl := B5.1.lt
    have oc : ∀ zi, _ = (#[.int .i64 7, .int .i64 h, .int .i64 (i0 : Int), .int .i64 k, .int .u64 vv, .int .i64 t, .int .i64 l, .int .u64 m] : Array Value)[zi]? := B5.2.1.cell
    have ol := B5.2.1.lt
    have rc := B5.2.2.1.cell
    have rf := B5.2.2.1.frozen
    have rl := B5.2.2.1.lt
    have ac := B5.2.2.2.1.cell
    have af := B5.2.2.2.1.frozen
    have al := B5.2.2.2.1.lt
    have zz3 := HX1.out _ B5.2.2.2.2.1
    have zzf := HX2.out _ B5.2.2.2.2.1
    have zl3 := B5.2.2.2.2.1.lt hlp
    have zlf := B5.2.2.2.2.1.lt hlf
    go_wp2_with (fail)
    go_quiet (fail)
    have B6 := B5.up ((Up.refl w5).drewN nq)
    clear zz3 zzf zl3 zlf
    clear gc gl oc ol rc rf rl ac af al
    generalize hnq : w5.drewN nq = w6 at *
    clear hnq
    have gc := B6.1.cell
    have gl := B6.1.lt
    have oc : ∀ zi, _ = (#[.int .i64 7, .int .i64 h, .int .i64 (i0 : Int), .int .i64 k, .int .u64 vv, .int .i64 t, .int .i64 l, .int .u64 m] : Array Value)[zi]? := B6.2.1.cell
    have ol := B6.2.1.lt
    have rc := B6.2.2.1.cell
    have rf := B6.2.2.1.frozen
    have rl := B6.2.2.1.lt
    have ac := B6.2.2.2.1.cell
    have af := B6.2.2.2.1.frozen
    have al := B6.2.2.2.1.lt
    go_wp2_with (fail)
    clear gc gl oc ol rc rf rl ac af al
    refine (HAD.out _).mono ?_
    rintro e w7 ⟨rfl, k7⟩
    have B7 := B6.up (show Up w6 w7 from k7 ▸ Up.refl w6)
    clear k7
    have gc := B7.1.cell
    have gl := B7.1.lt
    have oc : ∀ zi, _ = (#[.int .i64 7, .int .i64 h, .int .i64 (i0 : Int), .int .i64 k, .int .u64 vv, .int .i64 t, .int .i64 l, .int .u64 m] : Array Value)[zi]? := B7.2.1.cell
    have ol := B7.2.1.lt
    have rc := B7.2.2.1.cell
    have rf := B7.2.2.1.frozen
    have rl := B7.2.2.1.lt
    have ac := B7.2.2.2.1.cell
    have af := B7.2.2.2.1.frozen
    have al := B7.2.2.2.1.lt
    go_wp2_with (fail)
    clear gc gl oc ol rc rf rl ac af al
    refine (HST.out _ B7.2.2.2.2.1 _).mono ?_
    rintro e w8 ⟨A8, n8, c8, C8, s8, d8, us8, rfl, hr8, k8⟩
    have B8 := B7.up k8
    have gc := B8.1.cell
    have gl := B8.1.lt
    have oc : ∀ zi, _ = (#[.int .i64 7, .int .i64 h, .int .i64 (i0 : Int), .int .i64 k, .int .u64 vv, .int .i64 t, .int .i64 l, .int .u64 m] : Array Value)[zi]? := B8.2.1.cell
    have ol := B8.2.1.lt
    have rc := B8.2.2.1.cell
    have rf := B8.2.2.1.frozen
    have rl := B8.2.2.1.lt
    have ac := B8.2.2.2.1.cell
    have af := B8.2.2.2.1.frozen
    have al := B8.2.2.2.1.lt
    have HR8 := Lib.hid hr8
    clear hr8
    go_wp2_with (fail)
    have BK := B8
    obtain ⟨x1, x2, x3, x4, x5, x6⟩ := B8
    refine bodyPost_ret (ret_do rfl _ _ (w.heap.size + 1 + 1) (w.heap.size + 1 + 1 + 1) (.slice A8 n8 c8) (.slice C8 s8 d8) (.int .i64 0) (.int .u64 0) (.bool false) rfl (endG x3 x4) rfl (endA x3 x4)) rfl ?_
    rw [HDO.out, if_pos HE.out.symm]
    exact ⟨_, rfl, by rw [HNW.out _ HWR.out]; exact HR8.out.gr (endK BK), endU x5⟩
  · obtain ⟨x, hx⟩ : ∃ x, rfe g th ⟨7, h, i, k, vv, t, l, m⟩ false = x := ⟨_, rfl⟩
    rw [hx] at HFI HE he
    have hb : (x != 0) = true := bne_iff_ne.2 he
    have HNE := Lib.hid he
    clear hx he
    clear hg hR hF ht hr hv hm
    go_enter Try.func19, Try.ntmps19
    go_wp2_with (fail)
    have B4 : Bxs w (.slice A g.1.length c) (.slice B g.2.length d) ⟨7, h, i, k, vv, t, l, m⟩ ((((w.alloc (.cells #[.slice A g.1.length c, .slice B g.2.length d] 25)).alloc (.cells #[.int .i64 7, .int .i64 h, .int .i64 i, .int .i64 k, .int .u64 vv, .int .i64 t, .int .i64 l, .int .u64 m] 30)).alloc (.cells #[.slice none 0 0, .slice none 0 0] 25)).alloc (.cells #[.int .i64 0, .int .u64 0, .bool false] 39)) :=
      ⟨(((Blk.new w _ _).alloc _).alloc _).alloc _, ((Blk.new' (w.alloc _) (by simp) _ _).alloc _).alloc _, Blk.alloc (Blk.new' ((w.alloc _).alloc _) (by simp) _ _) _, Blk.new' (((w.alloc _).alloc _).alloc _) (by simp) _ _, ((((Up.refl w).alloc _).alloc _).alloc _).alloc _, by simp⟩
    generalize ((((w.alloc (.cells #[.slice A g.1.length c, .slice B g.2.length d] 25)).alloc (.cells #[.int .i64 7, .int .i64 h, .int .i64 i, .int .i64 k, .int .u64 vv, .int .i64 t, .int .i64 l, .int .u64 m] 30)).alloc (.cells #[.slice none 0 0, .slice none 0 0] 25)).alloc (.cells #[.int .i64 0, .int .u64 0, .bool false] 39)) = W4 at *
    refine (HFI.out _ B4.2.2.2.2.1).mono ?_
    rintro e w5 ⟨rfl, k5⟩
    have B5 := B4.up k5
    have gc := B5.1.cell
    have gl := B5.1.lt
    have oc : ∀ zi, _ = (#[.int .i64 7, .int .i64 h, .int .i64 i, .int .i64 k, .int .u64 vv, .int .i64 t, .int .i64 l, .int .u64 m] : Array Value)[zi]? := B5.2.1.cell
    have ol := B5.2.1.lt
    have rc := B5.2.2.1.cell
    have rf := B5.2.2.1.frozen
    have rl := B5.2.2.1.lt
    have ac := B5.2.2.2.1.cell
    have af := B5.2.2.2.1.frozen
    have al := B5.2.2.2.1.lt
    go_wp2_with (fail)
    clear gc gl oc ol rc rf rl ac af al
    refine (HNO.out _ B5.2.2.2.2.1 x).mono ?_
    rintro e w6 ⟨rfl, k6⟩
    have B6 := B5.up k6
    have gc := B6.1.cell
    have gl := B6.1.lt
    have oc : ∀ zi, _ = (#[.int .i64 7, .int .i64 h, .int .i64 i, .int .i64 k, .int .u64 vv, .int .i64 t, .int .i64 l, .int .u64 m] : Array Value)[zi]? := B6.2.1.cell
    have ol := B6.2.1.lt
    have rc := B6.2.2.1.cell
    have rf := B6.2.2.1.frozen
    have rl := B6.2.2.1.lt
    have ac := B6.2.2.2.1.cell
    have af := B6.2.2.2.1.frozen
    have al := B6.2.2.2.1.lt
    go_wp2_with (fail)
    obtain ⟨x1, x2, x3, x4, x5, x6⟩ := B6
    refine bodyPost_ret (ret_do rfl _ _ (w.heap.size + 1 + 1) (w.heap.size + 1 + 1 + 1) (.slice A g.1.length c) (.slice B g.2.length d) (.int .i64 (x)) (.int .u64 0) (.bool false) rfl (endG x3 x4) rfl (endA x3 x4)) rfl ?_
    rw [HDO.out, ← HE.out, if_neg HNE.out]
    exact ⟨_, rfl, HG.out.up (endU x5), endU x5⟩
end Go.Proofs.Ytlocllcijncllaa
