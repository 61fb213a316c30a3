/- The document's Do of graphs (dovecoteref15.Do), of handles: contracts. -/
import Derived.Test.YtlocllcijncllaaDd
namespace Go.Proofs.Ytlocllcijncllaa
open Go.Joins Go.ChangeShapes Go.WideShapes Go.ChangeAt Go.RowKit Go.Deep Go.Shelf Go.Maps
set_option linter.unusedVariables false
set_option linter.unusedSimpArgs false

theorem Bxs.setC {w W : World} {va vb : Value} {o : Op} {D i : Nat} (h : Bxs w va vb o W) (hD : w.heap.size + 1 + 1 + 1 + 1 ≤ D) (u : Value) : Bxs w va vb o (W.setCell ⟨D, i, none⟩ u) := by
  obtain ⟨x1, x2, x3, x4, x5, x6⟩ := h
  exact ⟨x1.far (p := ⟨D, i, none⟩) (by show w.heap.size ≠ D; omega) u, x2.far (p := ⟨D, i, none⟩) (by show w.heap.size + 1 ≠ D; omega) u, x3.far (p := ⟨D, i, none⟩) (by show w.heap.size + 1 + 1 ≠ D; omega) u, x4.far (p := ⟨D, i, none⟩) (by show w.heap.size + 1 + 1 + 1 ≠ D; omega) u, x5.setCell (p := ⟨D, i, none⟩) (by show w.heap.size ≤ D; omega) u, by simpa using x6⟩
theorem GrR.keepw {w0 w w' : World} {va vb : Value} {us : List Value} {g : Gr} (h : GrR w0 w va vb us g) (k : ∀ b t cs, t ≠ 25 → t ≠ 39 → Blk w b t cs → Blk w' b t cs) : GrR w0 w' va vb us g := fun w2 k2 => h w2 ⟨k2.up, fun b t cs h1 h2 hb => k2.keep b t cs h1 h2 (k b t cs h1 h2 hb)⟩
set_option maxRecDepth 100000 in
set_option maxHeartbeats 4000000 in
theorem rdo_3 (v : Value) (g : Gr) (th h i k vv t l m : Int) (w : World) (hg : GrV w v g) (hR : Rg g) (hn : g.1.length ≤ 1000000) (hF : FitG g) (ht : isTh g th) (hv : U64 vv) (hm : U64 m) : Calls Try.prog 19 #[v, .int .i64 th, .agg #[.int .i64 3, .int .i64 h, .int .i64 i, .int .i64 k, .int .u64 vv, .int .i64 t, .int .i64 l, .int .u64 m]] w (DoPost (doG g th ⟨3, h, i, k, vv, t, l, m⟩) w) := by
  obtain ⟨A, c, B, d, rfl, m1, m2⟩ := hg.form
  obtain ⟨us, hr⟩ := GrR.of hg
  have d0 : decide (th < 0) = false := decide_eq_false (by have := ht.1; omega)
  have d1 : decide (th ≥ (g.2.length : Int)) = false := decide_eq_false (by have := ht.2; omega)
  have HDO : Hid (doG g th ⟨3, h, i, k, vv, t, l, m⟩ = if errG g th ⟨3, h, i, k, vv, t, l, m⟩ = 0 then (newG g th ⟨3, h, i, k, vv, t, l, m⟩, (0, ansV g th ⟨3, h, i, k, vv, t, l, m⟩, ansY g th ⟨3, h, i, k, vv, t, l, m⟩)) else (g, (errG g th ⟨3, h, i, k, vv, t, l, m⟩, 0, false))) := Lib.hid (by unfold doG; rw [if_pos ht])
  have HG := Lib.hid hg
  have HRR := Lib.hid hr
  have HNO := Lib.hid (fun W (u : Up w W) z => rno_any (.agg #[.slice A g.1.length c, .slice B g.2.length d]) g z W (hg.up u))
  have HFI := Lib.hid (fun W (u : Up w W) => rfield_any (.agg #[.slice A g.1.length c, .slice B g.2.length d]) g th 3 h i k vv t l m true W (hg.up u) hR ht)
  by_cases he : rfe g th ⟨3, h, i, k, vv, t, l, m⟩ true = 0
  · obtain ⟨y, i0, e1, e2, hy, hi, e3, e4, e5, e6⟩ := rf_in he
    change gtv (rowOf g th) h = (y : Int) + 1 at e1
    change i = (i0 : Int) at e2
    subst e2
    rw [he, e3] at HFI
    have hu0 : U64 ((ndOf g ((y : Int) + 1)).2.getD i0 0) := hR.fu _ (ndOf_mem ⟨by omega, by omega⟩) _ (getD_mem 0 hi)
    have hup : (ndOf g ((y : Int) + 1)).2.getD i0 0 ≤ g.1.length := by
      have h1 := hR.pt (ndOf g ((y : Int) + 1)) (ndOf_mem ⟨by omega, by omega⟩) i0 hi
      refine h1 ?_
      have h2 : isP (ndOf g (gtv (rowOf g th) h)) (i0 : Int) = true := e5
      rwa [e1] at h2
    have HEE : Hid (errG g th ⟨3, h, (i0 : Int), k, vv, t, l, m⟩ = rme g th) := Lib.hid (by rw [err3 rfl, if_pos e4, if_pos e5])
    have HNW : Hid (newG g th ⟨3, h, (i0 : Int), k, vv, t, l, m⟩ = pushG g th ((ndOf g ((y : Int) + 1)).2.getD i0 0)) := Lib.hid (by
      show pushG g th (fwd g th ⟨3, h, (i0 : Int), k, vv, t, l, m⟩) = _
      rw [e6])
    obtain ⟨p, pf, cf, rfl, z3, zf⟩ := hg.fd_at hy hi
    have hl16 := hR.len (n := (y : Int) + 1) ⟨by omega, by omega⟩
    have HPU := Lib.hid (fun W (u : Up w W) => rpush_any (some p) B c d g.1.length g.2.length us g th ((ndOf g ((y : Int) + 1)).2.getD i0 0) w W u (hr W) ht hF)
    have HX1 := Lib.hid (fun W (u : Up w W) => u.cell z3)
    have HX2 := Lib.hid (fun W (u : Up w W) => u.cell zf)
    have hlp := lt_of_cell z3
    have hlf := lt_of_cell zf
    generalize hold : (ndOf g ((y : Int) + 1)).2.getD i0 0 = old at *
    generalize hln : (ndOf g ((y : Int) + 1)).2.length = ln at *
    generalize hz : rme g th = z at *
    have hu1 := hu0.1
    have hwo : IntKind.i64.wrap old = old := by rw [IntKind.wrap_i64]; omega
    clear hold hln hz z3 zf e1 e3 e4 e5 e6 he hu0
    clear hg hR hF ht hr hv hm
    go_enter Try.func19, Try.ntmps19
    go_wp2_with (fail)
    have B4 : Bxs w (.slice (some p) g.1.length c) (.slice B g.2.length d) ⟨3, h, (i0 : Int), k, vv, t, l, m⟩ ((((w.alloc (.cells #[.slice (some p) g.1.length c, .slice B g.2.length d] 25)).alloc (.cells #[.int .i64 3, .int .i64 h, .int .i64 (i0 : Int), .int .i64 k, .int .u64 vv, .int .i64 t, .int .i64 l, .int .u64 m] 30)).alloc (.cells #[.slice none 0 0, .slice none 0 0] 25)).alloc (.cells #[.int .i64 0, .int .u64 0, .bool false] 39)) :=
      ⟨(((Blk.new w _ _).alloc _).alloc _).alloc _, ((Blk.new' (w.alloc _) (by simp) _ _).alloc _).alloc _, Blk.alloc (Blk.new' ((w.alloc _).alloc _) (by simp) _ _) _, Blk.new' (((w.alloc _).alloc _).alloc _) (by simp) _ _, ((((Up.refl w).alloc _).alloc _).alloc _).alloc _, by simp⟩
    generalize ((((w.alloc (.cells #[.slice (some p) g.1.length c, .slice B g.2.length d] 25)).alloc (.cells #[.int .i64 3, .int .i64 h, .int .i64 (i0 : Int), .int .i64 k, .int .u64 vv, .int .i64 t, .int .i64 l, .int .u64 m] 30)).alloc (.cells #[.slice none 0 0, .slice none 0 0] 25)).alloc (.cells #[.int .i64 0, .int .u64 0, .bool false] 39)) = W4 at *
    refine (HFI.out _ B4.2.2.2.2.1).mono ?_
    rintro e w5 ⟨rfl, k5⟩
    have B5 := B4.up k5
    have gc := B5.1.cell
    have gl := B5.1.lt
    have oc : ∀ zi, _ = (#[.int .i64 3, .int .i64 h, .int .i64 (i0 : Int), .int .i64 k, .int .u64 vv, .int .i64 t, .int .i64 l, .int .u64 m] : Array Value)[zi]? := B5.2.1.cell
    have ol := B5.2.1.lt
    have rc := B5.2.2.1.cell
    have rf := B5.2.2.1.frozen
    have rl := B5.2.2.1.lt
    have ac := B5.2.2.2.1.cell
    have af := B5.2.2.2.1.frozen
    have al := B5.2.2.2.1.lt
    have zz3 := HX1.out _ B5.2.2.2.2.1
    have zzf := HX2.out _ B5.2.2.2.2.1
    have zl3 := B5.2.2.2.2.1.lt hlp
    have zlf := B5.2.2.2.2.1.lt hlf
    have U0 : Up w5 w5.drew := (Up.refl w5).drew
    have UW5 := B5.2.2.2.2.1
    have HKP := Lib.hid (fun W (u : Up w5 W) => (⟨fun zi => (B5.1.up u).cell zi, fun zi => (B5.2.1.up u).cell zi, u.cell zz3, u.cell zzf⟩ : (∀ zi, W.cell? ⟨w.heap.size, zi, none⟩ = (#[.slice (some p) g.1.length c, .slice B g.2.length d] : Array Value)[zi]?) ∧ (∀ zi, W.cell? ⟨w.heap.size + 1, zi, none⟩ = (#[.int .i64 3, .int .i64 h, .int .i64 (i0 : Int), .int .i64 k, .int .u64 vv, .int .i64 t, .int .i64 l, .int .u64 m] : Array Value)[zi]?) ∧ W.cell? ⟨(p.add (y * 4)).block, (p.add (y * 4)).off + 3, none⟩ = some (.slice (some pf) ln cf) ∧ W.cell? (pf.add i0) = some (.int .u64 old)))
    go_wp2_with (fail)
    go_region_held3 (fun w' => (∀ zi, w'.cell? ⟨w.heap.size, zi, none⟩ = (#[.slice (some p) g.1.length c, .slice B g.2.length d] : Array Value)[zi]?) ∧ (∀ zi, w'.cell? ⟨w.heap.size + 1, zi, none⟩ = (#[.int .i64 3, .int .i64 h, .int .i64 (i0 : Int), .int .i64 k, .int .u64 vv, .int .i64 t, .int .i64 l, .int .u64 m] : Array Value)[zi]?) ∧ w'.cell? ⟨(p.add (y * 4)).block, (p.add (y * 4)).off + 3, none⟩ = some (.slice (some pf) ln cf) ∧ w'.cell? (pf.add i0) = some (.int .u64 old))
      (first
        | with_reducible exact HKP.out _ (by assumption)
        | with_reducible exact HKP.out _ (((Up.refl w5).alloc _).drew)
        | with_reducible exact HKP.out _ (Up.alloc (by assumption) _)
        | exact HKP.out _ (Up.setCell (Up.setCell (by assumption) (Nat.le_refl _) _) (Nat.le_refl _) _))
      ((go_at_call 35; ((with_reducible refine (HPU.out _ (UW5.trans (by first | assumption | exact ((Up.refl w5).alloc _).drew))).mono ?_); rintro e w6 ⟨A6, n6, c6, C6, s6, d6, us6, rfl, hr6, k6⟩; have UZ : Up w5 w6 := Up.trans (by first | assumption | exact ((Up.refl w5).alloc _).drew) k6; (try (have MB := ((Blk.new w5 25 #[.slice none 0 0, .slice none 0 0]).drew).up k6; have mc := MB.cell; have mf := MB.frozen; have ml := MB.lt)))))
    · have B6 := B5.up UZ
      have B7 := B6.up ((Up.refl w6).alloc (.cells #[.slice A6 n6 c6, .slice C6 s6 d6] 25))
      have HR7 := Lib.hid (hr6.upw ((Up.refl w6).alloc (.cells #[.slice A6 n6 c6, .slice C6 s6 d6] 25)))
      clear gc gl oc ol rc rf rl ac af al zz3 zzf zl3 zlf hr6
      have gc := B7.1.cell
      have gl := B7.1.lt
      have oc : ∀ zi, _ = (#[.int .i64 3, .int .i64 h, .int .i64 (i0 : Int), .int .i64 k, .int .u64 vv, .int .i64 t, .int .i64 l, .int .u64 m] : Array Value)[zi]? := B7.2.1.cell
      have ol := B7.2.1.lt
      have rc := B7.2.2.1.cell
      have rf := B7.2.2.1.frozen
      have rl := B7.2.2.1.lt
      have ac := B7.2.2.2.1.cell
      have af := B7.2.2.2.1.frozen
      have al := B7.2.2.2.1.lt
      go_wp2_with (fail)
      have BK := B7
      obtain ⟨x1, x2, x3, x4, x5, x6⟩ := B7
      refine bodyPost_ret (ret_do rfl _ _ (w.heap.size + 1 + 1) (w.heap.size + 1 + 1 + 1) (.slice A6 n6 c6) (.slice C6 s6 d6) (.int .i64 z) (.int .u64 0) (.bool false) rfl (endG x3 x4) rfl (endA x3 x4)) rfl ?_
      rw [HDO.out, HEE.out]
      by_cases hz : z = 0
      · subst hz
        rw [if_pos rfl]
        have q := HR7.out
        rw [if_pos rfl] at q
        exact ⟨_, rfl, by rw [HNW.out]; exact q.gr (endK BK), endU x5⟩
      · rw [if_neg hz]
        have q := HR7.out
        rw [if_neg hz] at q
        exact ⟨_, rfl, q.gr (endK BK), endU x5⟩
    · have B6 := B5.up UZ
      have B7 := (B6.setC (D := w5.heap.size) (i := 0) B5.2.2.2.2.2 (.slice A6 n6 c6)).setC (D := w5.heap.size) (i := 1) B5.2.2.2.2.2 (.slice C6 s6 d6)
      have M7 : Blk ((w6.setCell ⟨w5.heap.size, 0, none⟩ (.slice A6 n6 c6)).setCell ⟨w5.heap.size, 1, none⟩ (.slice C6 s6 d6)) w5.heap.size 25 #[.slice A6 n6 c6, .slice C6 s6 d6] := by simpa using (MB.set_ 0 (.slice A6 n6 c6)).set_ 1 (.slice C6 s6 d6)
      have HR7 := Lib.hid (hr6.keepw (w' := (w6.setCell ⟨w5.heap.size, 0, none⟩ (.slice A6 n6 c6)).setCell ⟨w5.heap.size, 1, none⟩ (.slice C6 s6 d6)) (fun b t cs h1 h2 hb => (hb.far (p := ⟨w5.heap.size, 0, none⟩) (hb.ne_type MB h1) _).far (p := ⟨w5.heap.size, 1, none⟩) (hb.ne_type MB h1) _))
      have xc := M7.cell
      have xl := M7.lt
      clear gc gl oc ol rc rf rl ac af al zz3 zzf zl3 zlf hr6 mc mf ml
      generalize (w6.setCell ⟨w5.heap.size, 0, none⟩ (.slice A6 n6 c6)).setCell ⟨w5.heap.size, 1, none⟩ (.slice C6 s6 d6) = w7 at *
      have gc := B7.1.cell
      have gl := B7.1.lt
      have oc : ∀ zi, _ = (#[.int .i64 3, .int .i64 h, .int .i64 (i0 : Int), .int .i64 k, .int .u64 vv, .int .i64 t, .int .i64 l, .int .u64 m] : Array Value)[zi]? := B7.2.1.cell
      have ol := B7.2.1.lt
      have rc := B7.2.2.1.cell
      have rf := B7.2.2.1.frozen
      have rl := B7.2.2.1.lt
      have ac := B7.2.2.2.1.cell
      have af := B7.2.2.2.1.frozen
      have al := B7.2.2.2.1.lt
      go_wp2_with (fail)
      have BK := B7
      obtain ⟨x1, x2, x3, x4, x5, x6⟩ := B7
      refine bodyPost_ret (ret_do rfl _ _ (w.heap.size + 1 + 1) (w.heap.size + 1 + 1 + 1) (.slice A6 n6 c6) (.slice C6 s6 d6) (.int .i64 z) (.int .u64 0) (.bool false) rfl (endG x3 x4) rfl (endA x3 x4)) rfl ?_
      rw [HDO.out, HEE.out]
      by_cases hz : z = 0
      · subst hz
        rw [if_pos rfl]
        have q := HR7.out
        rw [if_pos rfl] at q
        exact ⟨_, rfl, by rw [HNW.out]; exact q.gr (endK BK), endU x5⟩
      · rw [if_neg hz]
        have q := HR7.out
        rw [if_neg hz] at q
        exact ⟨_, rfl, q.gr (endK BK), endU x5⟩
  · have HE : Hid (errG g th ⟨3, h, i, k, vv, t, l, m⟩ = rfe g th ⟨3, h, i, k, vv, t, l, m⟩ true) := Lib.hid (by
      have h1 := rfe_P (g := g) (th := th) (o := ⟨3, h, i, k, vv, t, l, m⟩) (x := rme g th) he
      rw [err3 rfl]
      exact h1)
    obtain ⟨x, hx⟩ : ∃ x, rfe g th ⟨3, h, i, k, vv, t, l, m⟩ true = x := ⟨_, rfl⟩
    rw [hx] at HFI HE he
    have hb : (x != 0) = true := bne_iff_ne.2 he
    have HNE := Lib.hid he
    clear hx he
    clear hg hR hF ht hr hv hm
    go_enter Try.func19, Try.ntmps19
    go_wp2_with (fail)
    have B4 : Bxs w (.slice A g.1.length c) (.slice B g.2.length d) ⟨3, h, i, k, vv, t, l, m⟩ ((((w.alloc (.cells #[.slice A g.1.length c, .slice B g.2.length d] 25)).alloc (.cells #[.int .i64 3, .int .i64 h, .int .i64 i, .int .i64 k, .int .u64 vv, .int .i64 t, .int .i64 l, .int .u64 m] 30)).alloc (.cells #[.slice none 0 0, .slice none 0 0] 25)).alloc (.cells #[.int .i64 0, .int .u64 0, .bool false] 39)) :=
      ⟨(((Blk.new w _ _).alloc _).alloc _).alloc _, ((Blk.new' (w.alloc _) (by simp) _ _).alloc _).alloc _, Blk.alloc (Blk.new' ((w.alloc _).alloc _) (by simp) _ _) _, Blk.new' (((w.alloc _).alloc _).alloc _) (by simp) _ _, ((((Up.refl w).alloc _).alloc _).alloc _).alloc _, by simp⟩
    generalize ((((w.alloc (.cells #[.slice A g.1.length c, .slice B g.2.length d] 25)).alloc (.cells #[.int .i64 3, .int .i64 h, .int .i64 i, .int .i64 k, .int .u64 vv, .int .i64 t, .int .i64 l, .int .u64 m] 30)).alloc (.cells #[.slice none 0 0, .slice none 0 0] 25)).alloc (.cells #[.int .i64 0, .int .u64 0, .bool false] 39)) = W4 at *
    refine (HFI.out _ B4.2.2.2.2.1).mono ?_
    rintro e w5 ⟨rfl, k5⟩
    have B5 := B4.up k5
    have gc := B5.1.cell
    have gl := B5.1.lt
    have oc : ∀ zi, _ = (#[.int .i64 3, .int .i64 h, .int .i64 i, .int .i64 k, .int .u64 vv, .int .i64 t, .int .i64 l, .int .u64 m] : Array Value)[zi]? := B5.2.1.cell
    have ol := B5.2.1.lt
    have rc := B5.2.2.1.cell
    have rf := B5.2.2.1.frozen
    have rl := B5.2.2.1.lt
    have ac := B5.2.2.2.1.cell
    have af := B5.2.2.2.1.frozen
    have al := B5.2.2.2.1.lt
    go_wp2_with (fail)
    clear gc gl oc ol rc rf rl ac af al
    refine (HNO.out _ B5.2.2.2.2.1 x).mono ?_
    rintro e w6 ⟨rfl, k6⟩
    have B6 := B5.up k6
    have gc := B6.1.cell
    have gl := B6.1.lt
    have oc : ∀ zi, _ = (#[.int .i64 3, .int .i64 h, .int .i64 i, .int .i64 k, .int .u64 vv, .int .i64 t, .int .i64 l, .int .u64 m] : Array Value)[zi]? := B6.2.1.cell
    have ol := B6.2.1.lt
    have rc := B6.2.2.1.cell
    have rf := B6.2.2.1.frozen
    have rl := B6.2.2.1.lt
    have ac := B6.2.2.2.1.cell
    have af := B6.2.2.2.1.frozen
    have al := B6.2.2.2.1.lt
    go_wp2_with (fail)
    obtain ⟨x1, x2, x3, x4, x5, x6⟩ := B6
    refine bodyPost_ret (ret_do rfl _ _ (w.heap.size + 1 + 1) (w.heap.size + 1 + 1 + 1) (.slice A g.1.length c) (.slice B g.2.length d) (.int .i64 (x)) (.int .u64 0) (.bool false) rfl (endG x3 x4) rfl (endA x3 x4)) rfl ?_
    rw [HDO.out, HE.out, if_neg HNE.out]
    exact ⟨_, rfl, HG.out.up (endU x5), endU x5⟩
set_option maxRecDepth 100000 in
set_option maxHeartbeats 4000000 in
theorem rdo_5 (v : Value) (g : Gr) (th h i k vv t l m : Int) (w : World) (hg : GrV w v g) (hR : Rg g) (hn : g.1.length ≤ 1000000) (hF : FitG g) (ht : isTh g th) (hv : U64 vv) (hm : U64 m) : Calls Try.prog 19 #[v, .int .i64 th, .agg #[.int .i64 5, .int .i64 h, .int .i64 i, .int .i64 k, .int .u64 vv, .int .i64 t, .int .i64 l, .int .u64 m]] w (DoPost (doG g th ⟨5, h, i, k, vv, t, l, m⟩) w) := by
  obtain ⟨A, c, B, d, rfl, m1, m2⟩ := hg.form
  obtain ⟨us, hr⟩ := GrR.of hg
  have d0 : decide (th < 0) = false := decide_eq_false (by have := ht.1; omega)
  have d1 : decide (th ≥ (g.2.length : Int)) = false := decide_eq_false (by have := ht.2; omega)
  have HDO : Hid (doG g th ⟨5, h, i, k, vv, t, l, m⟩ = if errG g th ⟨5, h, i, k, vv, t, l, m⟩ = 0 then (newG g th ⟨5, h, i, k, vv, t, l, m⟩, (0, ansV g th ⟨5, h, i, k, vv, t, l, m⟩, ansY g th ⟨5, h, i, k, vv, t, l, m⟩)) else (g, (errG g th ⟨5, h, i, k, vv, t, l, m⟩, 0, false))) := Lib.hid (by unfold doG; rw [if_pos ht])
  have HG := Lib.hid hg
  have HRR := Lib.hid hr
  have HNO := Lib.hid (fun W (u : Up w W) z => rno_any (.agg #[.slice A g.1.length c, .slice B g.2.length d]) g z W (hg.up u))
  have HFI := Lib.hid (fun W (u : Up w W) => rfield_any (.agg #[.slice A g.1.length c, .slice B g.2.length d]) g th 5 h i k vv t l m true W (hg.up u) hR ht)
  have HHK := Lib.hid (fun W (u : Up w W) => rhandle_any (.agg #[.slice A g.1.length c, .slice B g.2.length d]) g th k W (hg.up u) ht)
  by_cases he : rfe g th ⟨5, h, i, k, vv, t, l, m⟩ true = 0
  · obtain ⟨y, i0, e1, e2, hy, hi, e3, e4, e5, e6⟩ := rf_in he
    change gtv (rowOf g th) h = (y : Int) + 1 at e1
    change i = (i0 : Int) at e2
    subst e2
    rw [he, e3] at HFI
    have HER : Hid (errG g th ⟨5, h, (i0 : Int), k, vv, t, l, m⟩ = gte (rowOf g th) k) := Lib.hid (by rw [err5 rfl, if_pos e4, if_pos e5])
    have hkb := gtv_bd hR ht k
    have HNW : Hid (newG g th ⟨5, h, (i0 : Int), k, vv, t, l, m⟩ = setF g ((y : Int) + 1) i0 (gtv (rowOf g th) k)) := Lib.hid (by
      show setF g (gtv (rowOf g th) h) ((i0 : Int)).toNat (gtv (rowOf g th) k) = _
      rw [e1, Int.toNat_natCast])
    have HST := Lib.hid (fun W (u : Up w W) x => rset_any A B c d g.1.length g.2.length us g y i0 x w W u (hr W) hF hy hi)
    generalize hkv : gtv (rowOf g th) k = kv at *
    clear hkv e1 e3 e4 e5 e6 he
    by_cases hz : gte (rowOf g th) k = 0
    · rw [hz] at HHK HER
      clear hz
      clear hg hR hF ht hr hv hm hi
      go_enter Try.func19, Try.ntmps19
      go_wp2_with (fail)
      have B4 : Bxs w (.slice A g.1.length c) (.slice B g.2.length d) ⟨5, h, (i0 : Int), k, vv, t, l, m⟩ ((((w.alloc (.cells #[.slice A g.1.length c, .slice B g.2.length d] 25)).alloc (.cells #[.int .i64 5, .int .i64 h, .int .i64 (i0 : Int), .int .i64 k, .int .u64 vv, .int .i64 t, .int .i64 l, .int .u64 m] 30)).alloc (.cells #[.slice none 0 0, .slice none 0 0] 25)).alloc (.cells #[.int .i64 0, .int .u64 0, .bool false] 39)) :=
        ⟨(((Blk.new w _ _).alloc _).alloc _).alloc _, ((Blk.new' (w.alloc _) (by simp) _ _).alloc _).alloc _, Blk.alloc (Blk.new' ((w.alloc _).alloc _) (by simp) _ _) _, Blk.new' (((w.alloc _).alloc _).alloc _) (by simp) _ _, ((((Up.refl w).alloc _).alloc _).alloc _).alloc _, by simp⟩
      generalize ((((w.alloc (.cells #[.slice A g.1.length c, .slice B g.2.length d] 25)).alloc (.cells #[.int .i64 5, .int .i64 h, .int .i64 (i0 : Int), .int .i64 k, .int .u64 vv, .int .i64 t, .int .i64 l, .int .u64 m] 30)).alloc (.cells #[.slice none 0 0, .slice none 0 0] 25)).alloc (.cells #[.int .i64 0, .int .u64 0, .bool false] 39)) = W4 at *
      refine (HFI.out _ B4.2.2.2.2.1).mono ?_
      rintro e w5 ⟨rfl, k5⟩
      have B5 := B4.up k5
      have gc := B5.1.cell
      have gl := B5.1.lt
      have oc : ∀ zi, _ = (#[.int .i64 5, .int .i64 h, .int .i64 (i0 : Int), .int .i64 k, .int .u64 vv, .int .i64 t, .int .i64 l, .int .u64 m] : Array Value)[zi]? := B5.2.1.cell
      have ol := B5.2.1.lt
      have rc := B5.2.2.1.cell
      have rf := B5.2.2.1.frozen
      have rl := B5.2.2.1.lt
      have ac := B5.2.2.2.1.cell
      have af := B5.2.2.2.1.frozen
      have al := B5.2.2.2.1.lt
      go_wp2_with (fail)
      clear gc gl oc ol rc rf rl ac af al
      refine (HHK.out _ B5.2.2.2.2.1).mono ?_
      rintro e w6 ⟨rfl, k6⟩
      have B6 := B5.up k6
      have gc := B6.1.cell
      have gl := B6.1.lt
      have oc : ∀ zi, _ = (#[.int .i64 5, .int .i64 h, .int .i64 (i0 : Int), .int .i64 k, .int .u64 vv, .int .i64 t, .int .i64 l, .int .u64 m] : Array Value)[zi]? := B6.2.1.cell
      have ol := B6.2.1.lt
      have rc := B6.2.2.1.cell
      have rf := B6.2.2.1.frozen
      have rl := B6.2.2.1.lt
      have ac := B6.2.2.2.1.cell
      have af := B6.2.2.2.1.frozen
      have al := B6.2.2.2.1.lt
      go_wp2_with (fail)
      clear gc gl oc ol rc rf rl ac af al
      refine (HST.out _ B6.2.2.2.2.1 _).mono ?_
      rintro e w7 ⟨A8, n8, c8, C8, s8, d8, us8, rfl, hr8, k7⟩
      have B7 := B6.up k7
      have gc := B7.1.cell
      have gl := B7.1.lt
      have oc : ∀ zi, _ = (#[.int .i64 5, .int .i64 h, .int .i64 (i0 : Int), .int .i64 k, .int .u64 vv, .int .i64 t, .int .i64 l, .int .u64 m] : Array Value)[zi]? := B7.2.1.cell
      have ol := B7.2.1.lt
      have rc := B7.2.2.1.cell
      have rf := B7.2.2.1.frozen
      have rl := B7.2.2.1.lt
      have ac := B7.2.2.2.1.cell
      have af := B7.2.2.2.1.frozen
      have al := B7.2.2.2.1.lt
      have HR8 := Lib.hid hr8
      clear hr8
      go_wp2_with (fail)
      have BK := B7
      obtain ⟨x1, x2, x3, x4, x5, x6⟩ := B7
      refine bodyPost_ret (ret_do rfl _ _ (w.heap.size + 1 + 1) (w.heap.size + 1 + 1 + 1) (.slice A8 n8 c8) (.slice C8 s8 d8) (.int .i64 0) (.int .u64 0) (.bool false) rfl (endG x3 x4) rfl (endA x3 x4)) rfl ?_
      rw [HDO.out, if_pos HER.out]
      exact ⟨_, rfl, by rw [HNW.out]; exact HR8.out.gr (endK BK), endU x5⟩
    · obtain ⟨z, hzz⟩ : ∃ z, gte (rowOf g th) k = z := ⟨_, rfl⟩
      rw [hzz] at HHK HER hz
      have hb : (z != 0) = true := bne_iff_ne.2 hz
      have HNE := Lib.hid hz
      clear hz hzz
      clear hg hR hF ht hr hv hm hi
      go_enter Try.func19, Try.ntmps19
      go_wp2_with (fail)
      have B4 : Bxs w (.slice A g.1.length c) (.slice B g.2.length d) ⟨5, h, (i0 : Int), k, vv, t, l, m⟩ ((((w.alloc (.cells #[.slice A g.1.length c, .slice B g.2.length d] 25)).alloc (.cells #[.int .i64 5, .int .i64 h, .int .i64 (i0 : Int), .int .i64 k, .int .u64 vv, .int .i64 t, .int .i64 l, .int .u64 m] 30)).alloc (.cells #[.slice none 0 0, .slice none 0 0] 25)).alloc (.cells #[.int .i64 0, .int .u64 0, .bool false] 39)) :=
        ⟨(((Blk.new w _ _).alloc _).alloc _).alloc _, ((Blk.new' (w.alloc _) (by simp) _ _).alloc _).alloc _, Blk.alloc (Blk.new' ((w.alloc _).alloc _) (by simp) _ _) _, Blk.new' (((w.alloc _).alloc _).alloc _) (by simp) _ _, ((((Up.refl w).alloc _).alloc _).alloc _).alloc _, by simp⟩
      generalize ((((w.alloc (.cells #[.slice A g.1.length c, .slice B g.2.length d] 25)).alloc (.cells #[.int .i64 5, .int .i64 h, .int .i64 (i0 : Int), .int .i64 k, .int .u64 vv, .int .i64 t, .int .i64 l, .int .u64 m] 30)).alloc (.cells #[.slice none 0 0, .slice none 0 0] 25)).alloc (.cells #[.int .i64 0, .int .u64 0, .bool false] 39)) = W4 at *
      refine (HFI.out _ B4.2.2.2.2.1).mono ?_
      rintro e w5 ⟨rfl, k5⟩
      have B5 := B4.up k5
      have gc := B5.1.cell
      have gl := B5.1.lt
      have oc : ∀ zi, _ = (#[.int .i64 5, .int .i64 h, .int .i64 (i0 : Int), .int .i64 k, .int .u64 vv, .int .i64 t, .int .i64 l, .int .u64 m] : Array Value)[zi]? := B5.2.1.cell
      have ol := B5.2.1.lt
      have rc := B5.2.2.1.cell
      have rf := B5.2.2.1.frozen
      have rl := B5.2.2.1.lt
      have ac := B5.2.2.2.1.cell
      have af := B5.2.2.2.1.frozen
      have al := B5.2.2.2.1.lt
      go_wp2_with (fail)
      clear gc gl oc ol rc rf rl ac af al
      refine (HHK.out _ B5.2.2.2.2.1).mono ?_
      rintro e w6 ⟨rfl, k6⟩
      have B6 := B5.up k6
      have gc := B6.1.cell
      have gl := B6.1.lt
      have oc : ∀ zi, _ = (#[.int .i64 5, .int .i64 h, .int .i64 (i0 : Int), .int .i64 k, .int .u64 vv, .int .i64 t, .int .i64 l, .int .u64 m] : Array Value)[zi]? := B6.2.1.cell
      have ol := B6.2.1.lt
      have rc := B6.2.2.1.cell
      have rf := B6.2.2.1.frozen
      have rl := B6.2.2.1.lt
      have ac := B6.2.2.2.1.cell
      have af := B6.2.2.2.1.frozen
      have al := B6.2.2.2.1.lt
      go_wp2_with (fail)
      clear gc gl oc ol rc rf rl ac af al
      refine (HNO.out _ B6.2.2.2.2.1 z).mono ?_
      rintro e w7 ⟨rfl, k7⟩
      have B7 := B6.up k7
      have gc := B7.1.cell
      have gl := B7.1.lt
      have oc : ∀ zi, _ = (#[.int .i64 5, .int .i64 h, .int .i64 (i0 : Int), .int .i64 k, .int .u64 vv, .int .i64 t, .int .i64 l, .int .u64 m] : Array Value)[zi]? := B7.2.1.cell
      have ol := B7.2.1.lt
      have rc := B7.2.2.1.cell
      have rf := B7.2.2.1.frozen
      have rl := B7.2.2.1.lt
      have ac := B7.2.2.2.1.cell
      have af := B7.2.2.2.1.frozen
      have al := B7.2.2.2.1.lt
      go_wp2_with (fail)
      obtain ⟨x1, x2, x3, x4, x5, x6⟩ := B7
      refine bodyPost_ret (ret_do rfl _ _ (w.heap.size + 1 + 1) (w.heap.size + 1 + 1 + 1) (.slice A g.1.length c) (.slice B g.2.length d) (.int .i64 (z)) (.int .u64 0) (.bool false) rfl (endG x3 x4) rfl (endA x3 x4)) rfl ?_
      rw [HDO.out, HER.out, if_neg HNE.out]
      exact ⟨_, rfl, HG.out.up (endU x5), endU x5⟩
  · have HE : Hid (errG g th ⟨5, h, i, k, vv, t, l, m⟩ = rfe g th ⟨5, h, i, k, vv, t, l, m⟩ true) := Lib.hid (by
      have h1 := rfe_P (g := g) (th := th) (o := ⟨5, h, i, k, vv, t, l, m⟩) (x := gte (rowOf g th) k) he
      rw [err5 rfl]
      exact h1)
    obtain ⟨x, hx⟩ : ∃ x, rfe g th ⟨5, h, i, k, vv, t, l, m⟩ true = x := ⟨_, rfl⟩
    rw [hx] at HFI HE he
    have hb : (x != 0) = true := bne_iff_ne.2 he
    have HNE := Lib.hid he
    clear hx he
    clear hg hR hF ht hr hv hm
    go_enter Try.func19, Try.ntmps19
    go_wp2_with (fail)
    have B4 : Bxs w (.slice A g.1.length c) (.slice B g.2.length d) ⟨5, h, i, k, vv, t, l, m⟩ ((((w.alloc (.cells #[.slice A g.1.length c, .slice B g.2.length d] 25)).alloc (.cells #[.int .i64 5, .int .i64 h, .int .i64 i, .int .i64 k, .int .u64 vv, .int .i64 t, .int .i64 l, .int .u64 m] 30)).alloc (.cells #[.slice none 0 0, .slice none 0 0] 25)).alloc (.cells #[.int .i64 0, .int .u64 0, .bool false] 39)) :=
      ⟨(((Blk.new w _ _).alloc _).alloc _).alloc _, ((Blk.new' (w.alloc _) (by simp) _ _).alloc _).alloc _, Blk.alloc (Blk.new' ((w.alloc _).alloc _) (by simp) _ _) _, Blk.new' (((w.alloc _).alloc _).alloc _) (by simp) _ _, ((((Up.refl w).alloc _).alloc _).alloc _).alloc _, by simp⟩
    generalize ((((w.alloc (.cells #[.slice A g.1.length c, .slice B g.2.length d] 25)).alloc (.cells #[.int .i64 5, .int .i64 h, .int .i64 i, .int .i64 k, .int .u64 vv, .int .i64 t, .int .i64 l, .int .u64 m] 30)).alloc (.cells #[.slice none 0 0, .slice none 0 0] 25)).alloc (.cells #[.int .i64 0, .int .u64 0, .bool false] 39)) = W4 at *
    refine (HFI.out _ B4.2.2.2.2.1).mono ?_
    rintro e w5 ⟨rfl, k5⟩
    have B5 := B4.up k5
    have gc := B5.1.cell
    have gl := B5.1.lt
    have oc : ∀ zi, _ = (#[.int .i64 5, .int .i64 h, .int .i64 i, .int .i64 k, .int .u64 vv, .int .i64 t, .int .i64 l, .int .u64 m] : Array Value)[zi]? := B5.2.1.cell
    have ol := B5.2.1.lt
    have rc := B5.2.2.1.cell
    have rf := B5.2.2.1.frozen
    have rl := B5.2.2.1.lt
    have ac := B5.2.2.2.1.cell
    have af := B5.2.2.2.1.frozen
    have al := B5.2.2.2.1.lt
    go_wp2_with (fail)
    clear gc gl oc ol rc rf rl ac af al
    refine (HNO.out _ B5.2.2.2.2.1 x).mono ?_
    rintro e w6 ⟨rfl, k6⟩
    have B6 := B5.up k6
    have gc := B6.1.cell
    have gl := B6.1.lt
    have oc : ∀ zi, _ = (#[.int .i64 5, .int .i64 h, .int .i64 i, .int .i64 k, .int .u64 vv, .int .i64 t, .int .i64 l, .int .u64 m] : Array Value)[zi]? := B6.2.1.cell
    have ol := B6.2.1.lt
    have rc := B6.2.2.1.cell
    have rf := B6.2.2.1.frozen
    have rl := B6.2.2.1.lt
    have ac := B6.2.2.2.1.cell
    have af := B6.2.2.2.1.frozen
    have al := B6.2.2.2.1.lt
    go_wp2_with (fail)
    obtain ⟨x1, x2, x3, x4, x5, x6⟩ := B6
    refine bodyPost_ret (ret_do rfl _ _ (w.heap.size + 1 + 1) (w.heap.size + 1 + 1 + 1) (.slice A g.1.length c) (.slice B g.2.length d) (.int .i64 (x)) (.int .u64 0) (.bool false) rfl (endG x3 x4) rfl (endA x3 x4)) rfl ?_
    rw [HDO.out, HE.out, if_neg HNE.out]
    exact ⟨_, rfl, HG.out.up (endU x5), endU x5⟩
set_option maxRecDepth 100000 in
set_option maxHeartbeats 4000000 in
theorem rdo_8 (v : Value) (g : Gr) (th h i k vv t l m : Int) (w : World) (hg : GrV w v g) (hR : Rg g) (hn : g.1.length ≤ 1000000) (hF : FitG g) (ht : isTh g th) (hv : U64 vv) (hm : U64 m) : Calls Try.prog 19 #[v, .int .i64 th, .agg #[.int .i64 8, .int .i64 h, .int .i64 i, .int .i64 k, .int .u64 vv, .int .i64 t, .int .i64 l, .int .u64 m]] w (DoPost (doG g th ⟨8, h, i, k, vv, t, l, m⟩) w) := by
  obtain ⟨A, c, B, d, rfl, m1, m2⟩ := hg.form
  obtain ⟨us, hr⟩ := GrR.of hg
  have d0 : decide (th < 0) = false := decide_eq_false (by have := ht.1; omega)
  have d1 : decide (th ≥ (g.2.length : Int)) = false := decide_eq_false (by have := ht.2; omega)
  have HDO : Hid (doG g th ⟨8, h, i, k, vv, t, l, m⟩ = if errG g th ⟨8, h, i, k, vv, t, l, m⟩ = 0 then (newG g th ⟨8, h, i, k, vv, t, l, m⟩, (0, ansV g th ⟨8, h, i, k, vv, t, l, m⟩, ansY g th ⟨8, h, i, k, vv, t, l, m⟩)) else (g, (errG g th ⟨8, h, i, k, vv, t, l, m⟩, 0, false))) := Lib.hid (by unfold doG; rw [if_pos ht])
  have HG := Lib.hid hg
  have HRR := Lib.hid hr
  have HNO := Lib.hid (fun W (u : Up w W) z => rno_any (.agg #[.slice A g.1.length c, .slice B g.2.length d]) g z W (hg.up u))
  have HHH := Lib.hid (fun W (u : Up w W) => rhandle_any (.agg #[.slice A g.1.length c, .slice B g.2.length d]) g th h W (hg.up u) ht)
  have HHK := Lib.hid (fun W (u : Up w W) => rhandle_any (.agg #[.slice A g.1.length c, .slice B g.2.length d]) g th k W (hg.up u) ht)
  by_cases he : gte (rowOf g th) h = 0
  · have HER : Hid (errG g th ⟨8, h, i, k, vv, t, l, m⟩ = gte (rowOf g th) k) := Lib.hid (by rw [err8 rfl, if_pos he])
    rw [he] at HHH
    obtain ⟨bb, hbb⟩ : ∃ bb, (gtv (rowOf g th) h == gtv (rowOf g th) k) = bb := ⟨_, rfl⟩
    have HYY : Hid (ansY g th ⟨8, h, i, k, vv, t, l, m⟩ = bb) := Lib.hid (by
      rw [← hbb]
      show (decide ((8 : Int) = 8) && decide (gtv (rowOf g th) h = gtv (rowOf g th) k)) = _
      rw [decide_eq_true rfl, Bool.true_and]
      by_cases q : gtv (rowOf g th) h = gtv (rowOf g th) k
      · rw [decide_eq_true q, q, beq_self_eq_true]
      · rw [decide_eq_false q, beq_eq_false_iff_ne.2 q])
    generalize hkv : gtv (rowOf g th) k = kv at *
    generalize hhv : gtv (rowOf g th) h = hv1 at *
    clear hkv hhv he
    by_cases hz : gte (rowOf g th) k = 0
    · rw [hz] at HHK HER
      clear hz
      clear hg hR hF ht hr hv hm
      go_enter Try.func19, Try.ntmps19
      go_wp2_with (fail)
      have B4 : Bxs w (.slice A g.1.length c) (.slice B g.2.length d) ⟨8, h, i, k, vv, t, l, m⟩ ((((w.alloc (.cells #[.slice A g.1.length c, .slice B g.2.length d] 25)).alloc (.cells #[.int .i64 8, .int .i64 h, .int .i64 i, .int .i64 k, .int .u64 vv, .int .i64 t, .int .i64 l, .int .u64 m] 30)).alloc (.cells #[.slice none 0 0, .slice none 0 0] 25)).alloc (.cells #[.int .i64 0, .int .u64 0, .bool false] 39)) :=
        ⟨(((Blk.new w _ _).alloc _).alloc _).alloc _, ((Blk.new' (w.alloc _) (by simp) _ _).alloc _).alloc _, Blk.alloc (Blk.new' ((w.alloc _).alloc _) (by simp) _ _) _, Blk.new' (((w.alloc _).alloc _).alloc _) (by simp) _ _, ((((Up.refl w).alloc _).alloc _).alloc _).alloc _, by simp⟩
      generalize ((((w.alloc (.cells #[.slice A g.1.length c, .slice B g.2.length d] 25)).alloc (.cells #[.int .i64 8, .int .i64 h, .int .i64 i, .int .i64 k, .int .u64 vv, .int .i64 t, .int .i64 l, .int .u64 m] 30)).alloc (.cells #[.slice none 0 0, .slice none 0 0] 25)).alloc (.cells #[.int .i64 0, .int .u64 0, .bool false] 39)) = W4 at *
      refine (HHH.out _ B4.2.2.2.2.1).mono ?_
      rintro e w5 ⟨rfl, k5⟩
      have B5 := B4.up k5
      have gc := B5.1.cell
      have gl := B5.1.lt
      have oc : ∀ zi, _ = (#[.int .i64 8, .int .i64 h, .int .i64 i, .int .i64 k, .int .u64 vv, .int .i64 t, .int .i64 l, .int .u64 m] : Array Value)[zi]? := B5.2.1.cell
      have ol := B5.2.1.lt
      have rc := B5.2.2.1.cell
      have rf := B5.2.2.1.frozen
      have rl := B5.2.2.1.lt
      have ac := B5.2.2.2.1.cell
      have af := B5.2.2.2.1.frozen
      have al := B5.2.2.2.1.lt
      go_wp2_with (fail)
      clear gc gl oc ol rc rf rl ac af al
      refine (HHK.out _ B5.2.2.2.2.1).mono ?_
      rintro e w6 ⟨rfl, k6⟩
      have B6 := B5.up k6
      have gc := B6.1.cell
      have gl := B6.1.lt
      have oc : ∀ zi, _ = (#[.int .i64 8, .int .i64 h, .int .i64 i, .int .i64 k, .int .u64 vv, .int .i64 t, .int .i64 l, .int .u64 m] : Array Value)[zi]? := B6.2.1.cell
      have ol := B6.2.1.lt
      have rc := B6.2.2.1.cell
      have rf := B6.2.2.1.frozen
      have rl := B6.2.2.1.lt
      have ac := B6.2.2.2.1.cell
      have af := B6.2.2.2.1.frozen
      have al := B6.2.2.2.1.lt
      go_wp2_with (fail)
      obtain ⟨x1, x2, x3, x4, x5, x6⟩ := B6
      refine bodyPost_ret (ret_do rfl _ _ (w.heap.size + 1 + 1) (w.heap.size + 1 + 1 + 1) (.slice A g.1.length c) (.slice B g.2.length d) (.int .i64 0) (.int .u64 0) (.bool bb) rfl (endG x3 x4) rfl (endA x3 x4)) rfl ?_
      rw [HDO.out, if_pos HER.out]
      exact ⟨_, by rw [HYY.out]; rfl, HG.out.up (endU x5), endU x5⟩
    · obtain ⟨z, hzz⟩ : ∃ z, gte (rowOf g th) k = z := ⟨_, rfl⟩
      rw [hzz] at HHK HER hz
      have hb : (z != 0) = true := bne_iff_ne.2 hz
      have HNE := Lib.hid hz
      clear hz hzz
      clear hg hR hF ht hr hv hm
      go_enter Try.func19, Try.ntmps19
      go_wp2_with (fail)
      have B4 : Bxs w (.slice A g.1.length c) (.slice B g.2.length d) ⟨8, h, i, k, vv, t, l, m⟩ ((((w.alloc (.cells #[.slice A g.1.length c, .slice B g.2.length d] 25)).alloc (.cells #[.int .i64 8, .int .i64 h, .int .i64 i, .int .i64 k, .int .u64 vv, .int .i64 t, .int .i64 l, .int .u64 m] 30)).alloc (.cells #[.slice none 0 0, .slice none 0 0] 25)).alloc (.cells #[.int .i64 0, .int .u64 0, .bool false] 39)) :=
        ⟨(((Blk.new w _ _).alloc _).alloc _).alloc _, ((Blk.new' (w.alloc _) (by simp) _ _).alloc _).alloc _, Blk.alloc (Blk.new' ((w.alloc _).alloc _) (by simp) _ _) _, Blk.new' (((w.alloc _).alloc _).alloc _) (by simp) _ _, ((((Up.refl w).alloc _).alloc _).alloc _).alloc _, by simp⟩
      generalize ((((w.alloc (.cells #[.slice A g.1.length c, .slice B g.2.length d] 25)).alloc (.cells #[.int .i64 8, .int .i64 h, .int .i64 i, .int .i64 k, .int .u64 vv, .int .i64 t, .int .i64 l, .int .u64 m] 30)).alloc (.cells #[.slice none 0 0, .slice none 0 0] 25)).alloc (.cells #[.int .i64 0, .int .u64 0, .bool false] 39)) = W4 at *
      refine (HHH.out _ B4.2.2.2.2.1).mono ?_
      rintro e w5 ⟨rfl, k5⟩
      have B5 := B4.up k5
      have gc := B5.1.cell
      have gl := B5.1.lt
      have oc : ∀ zi, _ = (#[.int .i64 8, .int .i64 h, .int .i64 i, .int .i64 k, .int .u64 vv, .int .i64 t, .int .i64 l, .int .u64 m] : Array Value)[zi]? := B5.2.1.cell
      have ol := B5.2.1.lt
      have rc := B5.2.2.1.cell
      have rf := B5.2.2.1.frozen
      have rl := B5.2.2.1.lt
      have ac := B5.2.2.2.1.cell
      have af := B5.2.2.2.1.frozen
      have al := B5.2.2.2.1.lt
      go_wp2_with (fail)
      clear gc gl oc ol rc rf rl ac af al
      refine (HHK.out _ B5.2.2.2.2.1).mono ?_
      rintro e w6 ⟨rfl, k6⟩
      have B6 := B5.up k6
      have gc := B6.1.cell
      have gl := B6.1.lt
      have oc : ∀ zi, _ = (#[.int .i64 8, .int .i64 h, .int .i64 i, .int .i64 k, .int .u64 vv, .int .i64 t, .int .i64 l, .int .u64 m] : Array Value)[zi]? := B6.2.1.cell
      have ol := B6.2.1.lt
      have rc := B6.2.2.1.cell
      have rf := B6.2.2.1.frozen
      have rl := B6.2.2.1.lt
      have ac := B6.2.2.2.1.cell
      have af := B6.2.2.2.1.frozen
      have al := B6.2.2.2.1.lt
      go_wp2_with (fail)
      clear gc gl oc ol rc rf rl ac af al
      refine (HNO.out _ B6.2.2.2.2.1 z).mono ?_
      rintro e w7 ⟨rfl, k7⟩
      have B7 := B6.up k7
      have gc := B7.1.cell
      have gl := B7.1.lt
      have oc : ∀ zi, _ = (#[.int .i64 8, .int .i64 h, .int .i64 i, .int .i64 k, .int .u64 vv, .int .i64 t, .int .i64 l, .int .u64 m] : Array Value)[zi]? := B7.2.1.cell
      have ol := B7.2.1.lt
      have rc := B7.2.2.1.cell
      have rf := B7.2.2.1.frozen
      have rl := B7.2.2.1.lt
      have ac := B7.2.2.2.1.cell
      have af := B7.2.2.2.1.frozen
      have al := B7.2.2.2.1.lt
      go_wp2_with (fail)
      obtain ⟨x1, x2, x3, x4, x5, x6⟩ := B7
      refine bodyPost_ret (ret_do rfl _ _ (w.heap.size + 1 + 1) (w.heap.size + 1 + 1 + 1) (.slice A g.1.length c) (.slice B g.2.length d) (.int .i64 (z)) (.int .u64 0) (.bool false) rfl (endG x3 x4) rfl (endA x3 x4)) rfl ?_
      rw [HDO.out, HER.out, if_neg HNE.out]
      exact ⟨_, rfl, HG.out.up (endU x5), endU x5⟩
  · have HE : Hid (errG g th ⟨8, h, i, k, vv, t, l, m⟩ = gte (rowOf g th) h) := Lib.hid (by rw [err8 rfl, if_neg he])
    obtain ⟨x, hx⟩ : ∃ x, gte (rowOf g th) h = x := ⟨_, rfl⟩
    rw [hx] at HHH HE he
    have hb : (x != 0) = true := bne_iff_ne.2 he
    have HNE := Lib.hid he
    clear hx he
    clear hg hR hF ht hr hv hm
    go_enter Try.func19, Try.ntmps19
    go_wp2_with (fail)
    have B4 : Bxs w (.slice A g.1.length c) (.slice B g.2.length d) ⟨8, h, i, k, vv, t, l, m⟩ ((((w.alloc (.cells #[.slice A g.1.length c, .slice B g.2.length d] 25)).alloc (.cells #[.int .i64 8, .int .i64 h, .int .i64 i, .int .i64 k, .int .u64 vv, .int .i64 t, .int .i64 l, .int .u64 m] 30)).alloc (.cells #[.slice none 0 0, .slice none 0 0] 25)).alloc (.cells #[.int .i64 0, .int .u64 0, .bool false] 39)) :=
      ⟨(((Blk.new w _ _).alloc _).alloc _).alloc _, ((Blk.new' (w.alloc _) (by simp) _ _).alloc _).alloc _, Blk.alloc (Blk.new' ((w.alloc _).alloc _) (by simp) _ _) _, Blk.new' (((w.alloc _).alloc _).alloc _) (by simp) _ _, ((((Up.refl w).alloc _).alloc _).alloc _).alloc _, by simp⟩
    generalize ((((w.alloc (.cells #[.slice A g.1.length c, .slice B g.2.length d] 25)).alloc (.cells #[.int .i64 8, .int .i64 h, .int .i64 i, .int .i64 k, .int .u64 vv, .int .i64 t, .int .i64 l, .int .u64 m] 30)).alloc (.cells #[.slice none 0 0, .slice none 0 0] 25)).alloc (.cells #[.int .i64 0, .int .u64 0, .bool false] 39)) = W4 at *
    refine (HHH.out _ B4.2.2.2.2.1).mono ?_
    rintro e w5 ⟨rfl, k5⟩
    have B5 := B4.up k5
    have gc := B5.1.cell
    have gl := B5.1.lt
    have oc : ∀ zi, _ = (#[.int .i64 8, .int .i64 h, .int .i64 i, .int .i64 k, .int .u64 vv, .int .i64 t, .int .i64 l, .int .u64 m] : Array Value)[zi]? := B5.2.1.cell
    have ol := B5.2.1.lt
    have rc := B5.2.2.1.cell
    have rf := B5.2.2.1.frozen
    have rl := B5.2.2.1.lt
    have ac := B5.2.2.2.1.cell
    have af := B5.2.2.2.1.frozen
    have al := B5.2.2.2.1.lt
    go_wp2_with (fail)
    clear gc gl oc ol rc rf rl ac af al
    refine (HNO.out _ B5.2.2.2.2.1 x).mono ?_
    rintro e w6 ⟨rfl, k6⟩
    have B6 := B5.up k6
    have gc := B6.1.cell
    have gl := B6.1.lt
    have oc : ∀ zi, _ = (#[.int .i64 8, .int .i64 h, .int .i64 i, .int .i64 k, .int .u64 vv, .int .i64 t, .int .i64 l, .int .u64 m] : Array Value)[zi]? := B6.2.1.cell
    have ol := B6.2.1.lt
    have rc := B6.2.2.1.cell
    have rf := B6.2.2.1.frozen
    have rl := B6.2.2.1.lt
    have ac := B6.2.2.2.1.cell
    have af := B6.2.2.2.1.frozen
    have al := B6.2.2.2.1.lt
    go_wp2_with (fail)
    obtain ⟨x1, x2, x3, x4, x5, x6⟩ := B6
    refine bodyPost_ret (ret_do rfl _ _ (w.heap.size + 1 + 1) (w.heap.size + 1 + 1 + 1) (.slice A g.1.length c) (.slice B g.2.length d) (.int .i64 (x)) (.int .u64 0) (.bool false) rfl (endG x3 x4) rfl (endA x3 x4)) rfl ?_
    rw [HDO.out, HE.out, if_neg HNE.out]
    exact ⟨_, rfl, HG.out.up (endU x5), endU x5⟩
set_option maxRecDepth 100000 in
set_option maxHeartbeats 4000000 in
theorem rdo_9 (v : Value) (g : Gr) (th h i k vv t l m : Int) (w : World) (hg : GrV w v g) (hR : Rg g) (hn : g.1.length ≤ 1000000) (hF : FitG g) (ht : isTh g th) (hv : U64 vv) (hm : U64 m) : Calls Try.prog 19 #[v, .int .i64 th, .agg #[.int .i64 9, .int .i64 h, .int .i64 i, .int .i64 k, .int .u64 vv, .int .i64 t, .int .i64 l, .int .u64 m]] w (DoPost (doG g th ⟨9, h, i, k, vv, t, l, m⟩) w) := by
  obtain ⟨A, c, B, d, rfl, m1, m2⟩ := hg.form
  obtain ⟨us, hr⟩ := GrR.of hg
  have d0 : decide (th < 0) = false := decide_eq_false (by have := ht.1; omega)
  have d1 : decide (th ≥ (g.2.length : Int)) = false := decide_eq_false (by have := ht.2; omega)
  have HDO : Hid (doG g th ⟨9, h, i, k, vv, t, l, m⟩ = if errG g th ⟨9, h, i, k, vv, t, l, m⟩ = 0 then (newG g th ⟨9, h, i, k, vv, t, l, m⟩, (0, ansV g th ⟨9, h, i, k, vv, t, l, m⟩, ansY g th ⟨9, h, i, k, vv, t, l, m⟩)) else (g, (errG g th ⟨9, h, i, k, vv, t, l, m⟩, 0, false))) := Lib.hid (by unfold doG; rw [if_pos ht])
  have HG := Lib.hid hg
  have HRR := Lib.hid hr
  have HNO := Lib.hid (fun W (u : Up w W) z => rno_any (.agg #[.slice A g.1.length c, .slice B g.2.length d]) g z W (hg.up u))
  have HHH := Lib.hid (fun W (u : Up w W) => rhandle_any (.agg #[.slice A g.1.length c, .slice B g.2.length d]) g th h W (hg.up u) ht)
  by_cases he : gte (rowOf g th) h = 0
  · have HEE : Hid (errG g th ⟨9, h, i, k, vv, t, l, m⟩ = rme g th) := Lib.hid (by rw [err9 rfl, if_pos he])
    have HNW : Hid (newG g th ⟨9, h, i, k, vv, t, l, m⟩ = pushG g th (gtv (rowOf g th) h)) := Lib.hid rfl
    have HPU := Lib.hid (fun W (u : Up w W) => rpush_any A B c d g.1.length g.2.length us g th (gtv (rowOf g th) h) w W u (hr W) ht hF)
    rw [he] at HHH
    generalize hz : rme g th = z at *
    generalize hhv : gtv (rowOf g th) h = hv1 at *
    clear hz hhv he
    clear hg hR hF ht hr hv hm
    go_enter Try.func19, Try.ntmps19
    go_wp2_with (fail)
    have B4 : Bxs w (.slice A g.1.length c) (.slice B g.2.length d) ⟨9, h, i, k, vv, t, l, m⟩ ((((w.alloc (.cells #[.slice A g.1.length c, .slice B g.2.length d] 25)).alloc (.cells #[.int .i64 9, .int .i64 h, .int .i64 i, .int .i64 k, .int .u64 vv, .int .i64 t, .int .i64 l, .int .u64 m] 30)).alloc (.cells #[.slice none 0 0, .slice none 0 0] 25)).alloc (.cells #[.int .i64 0, .int .u64 0, .bool false] 39)) :=
      ⟨(((Blk.new w _ _).alloc _).alloc _).alloc _, ((Blk.new' (w.alloc _) (by simp) _ _).alloc _).alloc _, Blk.alloc (Blk.new' ((w.alloc _).alloc _) (by simp) _ _) _, Blk.new' (((w.alloc _).alloc _).alloc _) (by simp) _ _, ((((Up.refl w).alloc _).alloc _).alloc _).alloc _, by simp⟩
    generalize ((((w.alloc (.cells #[.slice A g.1.length c, .slice B g.2.length d] 25)).alloc (.cells #[.int .i64 9, .int .i64 h, .int .i64 i, .int .i64 k, .int .u64 vv, .int .i64 t, .int .i64 l, .int .u64 m] 30)).alloc (.cells #[.slice none 0 0, .slice none 0 0] 25)).alloc (.cells #[.int .i64 0, .int .u64 0, .bool false] 39)) = W4 at *
    refine (HHH.out _ B4.2.2.2.2.1).mono ?_
    rintro e w5 ⟨rfl, k5⟩
    have B5 := B4.up k5
    have gc := B5.1.cell
    have gl := B5.1.lt
    have oc : ∀ zi, _ = (#[.int .i64 9, .int .i64 h, .int .i64 i, .int .i64 k, .int .u64 vv, .int .i64 t, .int .i64 l, .int .u64 m] : Array Value)[zi]? := B5.2.1.cell
    have ol := B5.2.1.lt
    have rc := B5.2.2.1.cell
    have rf := B5.2.2.1.frozen
    have rl := B5.2.2.1.lt
    have ac := B5.2.2.2.1.cell
    have af := B5.2.2.2.1.frozen
    have al := B5.2.2.2.1.lt
    go_wp2_with (fail)
    clear gc gl oc ol rc rf rl ac af al
    refine (HPU.out _ B5.2.2.2.2.1).mono ?_
    rintro e w6 ⟨A6, n6, c6, C6, s6, d6, us6, rfl, hr6, k6⟩
    have B6 := B5.up k6
    have B7 := B6.up ((Up.refl w6).alloc (.cells #[.slice A6 n6 c6, .slice C6 s6 d6] 25))
    have HR7 := Lib.hid (hr6.upw ((Up.refl w6).alloc (.cells #[.slice A6 n6 c6, .slice C6 s6 d6] 25)))
    clear hr6
    have gc := B7.1.cell
    have gl := B7.1.lt
    have oc : ∀ zi, _ = (#[.int .i64 9, .int .i64 h, .int .i64 i, .int .i64 k, .int .u64 vv, .int .i64 t, .int .i64 l, .int .u64 m] : Array Value)[zi]? := B7.2.1.cell
    have ol := B7.2.1.lt
    have rc := B7.2.2.1.cell
    have rf := B7.2.2.1.frozen
    have rl := B7.2.2.1.lt
    have ac := B7.2.2.2.1.cell
    have af := B7.2.2.2.1.frozen
    have al := B7.2.2.2.1.lt
    go_wp2_with (fail)
    have BK := B7
    obtain ⟨x1, x2, x3, x4, x5, x6⟩ := B7
    refine bodyPost_ret (ret_do rfl _ _ (w.heap.size + 1 + 1) (w.heap.size + 1 + 1 + 1) (.slice A6 n6 c6) (.slice C6 s6 d6) (.int .i64 z) (.int .u64 0) (.bool false) rfl (endG x3 x4) rfl (endA x3 x4)) rfl ?_
    rw [HDO.out, HEE.out]
    by_cases hz : z = 0
    · subst hz
      rw [if_pos rfl]
      have q := HR7.out
      rw [if_pos rfl] at q
      exact ⟨_, rfl, by rw [HNW.out]; exact q.gr (endK BK), endU x5⟩
    · rw [if_neg hz]
      have q := HR7.out
      rw [if_neg hz] at q
      exact ⟨_, rfl, q.gr (endK BK), endU x5⟩
  · have HE : Hid (errG g th ⟨9, h, i, k, vv, t, l, m⟩ = gte (rowOf g th) h) := Lib.hid (by rw [err9 rfl, if_neg he])
    obtain ⟨x, hx⟩ : ∃ x, gte (rowOf g th) h = x := ⟨_, rfl⟩
    rw [hx] at HHH HE he
    have hb : (x != 0) = true := bne_iff_ne.2 he
    have HNE := Lib.hid he
    clear hx he
    clear hg hR hF ht hr hv hm
    go_enter Try.func19, Try.ntmps19
    go_wp2_with (fail)
    have B4 : Bxs w (.slice A g.1.length c) (.slice B g.2.length d) ⟨9, h, i, k, vv, t, l, m⟩ ((((w.alloc (.cells #[.slice A g.1.length c, .slice B g.2.length d] 25)).alloc (.cells #[.int .i64 9, .int .i64 h, .int .i64 i, .int .i64 k, .int .u64 vv, .int .i64 t, .int .i64 l, .int .u64 m] 30)).alloc (.cells #[.slice none 0 0, .slice none 0 0] 25)).alloc (.cells #[.int .i64 0, .int .u64 0, .bool false] 39)) :=
      ⟨(((Blk.new w _ _).alloc _).alloc _).alloc _, ((Blk.new' (w.alloc _) (by simp) _ _).alloc _).alloc _, Blk.alloc (Blk.new' ((w.alloc _).alloc _) (by simp) _ _) _, Blk.new' (((w.alloc _).alloc _).alloc _) (by simp) _ _, ((((Up.refl w).alloc _).alloc _).alloc _).alloc _, by simp⟩
    generalize ((((w.alloc (.cells #[.slice A g.1.length c, .slice B g.2.length d] 25)).alloc (.cells #[.int .i64 9, .int .i64 h, .int .i64 i, .int .i64 k, .int .u64 vv, .int .i64 t, .int .i64 l, .int .u64 m] 30)).alloc (.cells #[.slice none 0 0, .slice none 0 0] 25)).alloc (.cells #[.int .i64 0, .int .u64 0, .bool false] 39)) = W4 at *
    refine (HHH.out _ B4.2.2.2.2.1).mono ?_
    rintro e w5 ⟨rfl, k5⟩
    have B5 := B4.up k5
    have gc := B5.1.cell
    have gl := B5.1.lt
    have oc : ∀ zi, _ = (#[.int .i64 9, .int .i64 h, .int .i64 i, .int .i64 k, .int .u64 vv, .int .i64 t, .int .i64 l, .int .u64 m] : Array Value)[zi]? := B5.2.1.cell
    have ol := B5.2.1.lt
    have rc := B5.2.2.1.cell
    have rf := B5.2.2.1.frozen
    have rl := B5.2.2.1.lt
    have ac := B5.2.2.2.1.cell
    have af := B5.2.2.2.1.frozen
    have al := B5.2.2.2.1.lt
    go_wp2_with (fail)
    clear gc gl oc ol rc rf rl ac af al
    refine (HNO.out _ B5.2.2.2.2.1 x).mono ?_
    rintro e w6 ⟨rfl, k6⟩
    have B6 := B5.up k6
    have gc := B6.1.cell
    have gl := B6.1.lt
    have oc : ∀ zi, _ = (#[.int .i64 9, .int .i64 h, .int .i64 i, .int .i64 k, .int .u64 vv, .int .i64 t, .int .i64 l, .int .u64 m] : Array Value)[zi]? := B6.2.1.cell
    have ol := B6.2.1.lt
    have rc := B6.2.2.1.cell
    have rf := B6.2.2.1.frozen
    have rl := B6.2.2.1.lt
    have ac := B6.2.2.2.1.cell
    have af := B6.2.2.2.1.frozen
    have al := B6.2.2.2.1.lt
    go_wp2_with (fail)
    obtain ⟨x1, x2, x3, x4, x5, x6⟩ := B6
    refine bodyPost_ret (ret_do rfl _ _ (w.heap.size + 1 + 1) (w.heap.size + 1 + 1 + 1) (.slice A g.1.length c) (.slice B g.2.length d) (.int .i64 (x)) (.int .u64 0) (.bool false) rfl (endG x3 x4) rfl (endA x3 x4)) rfl ?_
    rw [HDO.out, HE.out, if_neg HNE.out]
    exact ⟨_, rfl, HG.out.up (endU x5), endU x5⟩
/-! The document's Do of graphs (dovecoteref15.Do), the last handle's end: contracts. -/

theorem Kq.drew {w0 w w' : World} (h : Kq w0 w w') : Kq w0 w w'.drew := ⟨h.up.drew, fun b t cs h1 h2 hb => (h.keep b t cs h1 h2 hb).drew⟩
set_option maxRecDepth 100000 in
set_option maxHeartbeats 4000000 in
theorem rdo_10 (v : Value) (g : Gr) (th h i k vv t l m : Int) (w : World) (hg : GrV w v g) (hR : Rg g) (hn : g.1.length ≤ 1000000) (hF : FitG g) (ht : isTh g th) (hv : U64 vv) (hm : U64 m) : Calls Try.prog 19 #[v, .int .i64 th, .agg #[.int .i64 10, .int .i64 h, .int .i64 i, .int .i64 k, .int .u64 vv, .int .i64 t, .int .i64 l, .int .u64 m]] w (DoPost (doG g th ⟨10, h, i, k, vv, t, l, m⟩) w) := by
  obtain ⟨th, rfl⟩ : ∃ j : Nat, th = j := ⟨th.toNat, by have := ht.1; omega⟩
  obtain ⟨A, c, B, d, rfl, m1, m2⟩ := hg.form
  obtain ⟨us, hr⟩ := GrR.of hg
  have d0 : decide ((th : Int) < 0) = false := decide_eq_false (by have := ht.1; omega)
  have d1 : decide ((th : Int) ≥ (g.2.length : Int)) = false := decide_eq_false (by have := ht.2; omega)
  have HDO : Hid (doG g (th : Int) ⟨10, h, i, k, vv, t, l, m⟩ = if errG g th ⟨10, h, i, k, vv, t, l, m⟩ = 0 then (newG g th ⟨10, h, i, k, vv, t, l, m⟩, (0, ansV g th ⟨10, h, i, k, vv, t, l, m⟩, ansY g th ⟨10, h, i, k, vv, t, l, m⟩)) else (g, (errG g th ⟨10, h, i, k, vv, t, l, m⟩, 0, false))) := Lib.hid (by unfold doG; rw [if_pos ht])
  have HG := Lib.hid hg
  have HRR := Lib.hid hr
  have HNO := Lib.hid (fun W (u : Up w W) z => rno_any (.agg #[.slice A g.1.length c, .slice B g.2.length d]) g z W (hg.up u))
  have htl : th < g.2.length := by have := ht.2; omega
  obtain ⟨pr, PR, qr, rfl, hc0, hl0, hsl⟩ := hg.row_at htl
  have hrx := hsl.max
  unfold maxLen at hrx
  have HX1 := Lib.hid (fun W (u : Up w W) => u.cell hc0)
  by_cases he : rowOf g (th : Int) = []
  · have HE : Hid (errG g (th : Int) ⟨10, h, i, k, vv, t, l, m⟩ = 9) := Lib.hid (by rw [err10 rfl, if_pos he])
    have hl : (rowOf g (th : Int)).length = 0 := by rw [he]; rfl
    rw [hl] at hc0 HX1 hsl
    have zc0 := fun o1 o2 o3 o4 => Up.cell (((((Up.refl w).alloc o1).alloc o2).alloc o3).alloc o4) hc0
    have HNN := Lib.hid (show (9 : Int) ≠ 0 by decide)
    clear he hl hsl hrx
    clear hg hR hF hr hv hm ht
    go_enter Try.func19, Try.ntmps19
    go_wp2_with (fail)
    have B4 : Bxs w (.slice A g.1.length c) (.slice (some pr) g.2.length d) ⟨10, h, i, k, vv, t, l, m⟩ ((((w.alloc (.cells #[.slice A g.1.length c, .slice (some pr) g.2.length d] 25)).alloc (.cells #[.int .i64 10, .int .i64 h, .int .i64 i, .int .i64 k, .int .u64 vv, .int .i64 t, .int .i64 l, .int .u64 m] 30)).alloc (.cells #[.slice none 0 0, .slice none 0 0] 25)).alloc (.cells #[.int .i64 0, .int .u64 0, .bool false] 39)) :=
      ⟨(((Blk.new w _ _).alloc _).alloc _).alloc _, ((Blk.new' (w.alloc _) (by simp) _ _).alloc _).alloc _, Blk.alloc (Blk.new' ((w.alloc _).alloc _) (by simp) _ _) _, Blk.new' (((w.alloc _).alloc _).alloc _) (by simp) _ _, ((((Up.refl w).alloc _).alloc _).alloc _).alloc _, by simp⟩
    generalize ((((w.alloc (.cells #[.slice A g.1.length c, .slice (some pr) g.2.length d] 25)).alloc (.cells #[.int .i64 10, .int .i64 h, .int .i64 i, .int .i64 k, .int .u64 vv, .int .i64 t, .int .i64 l, .int .u64 m] 30)).alloc (.cells #[.slice none 0 0, .slice none 0 0] 25)).alloc (.cells #[.int .i64 0, .int .u64 0, .bool false] 39)) = W4 at *
    refine (HNO.out _ B4.2.2.2.2.1 9).mono ?_
    rintro e w5 ⟨rfl, k5⟩
    have B5 := B4.up k5
    have gc := B5.1.cell
    have gl := B5.1.lt
    have oc : ∀ zi, _ = (#[.int .i64 10, .int .i64 h, .int .i64 i, .int .i64 k, .int .u64 vv, .int .i64 t, .int .i64 l, .int .u64 m] : Array Value)[zi]? := B5.2.1.cell
    have ol := B5.2.1.lt
    have rc := B5.2.2.1.cell
    have rf := B5.2.2.1.frozen
    have rl := B5.2.2.1.lt
    have ac := B5.2.2.2.1.cell
    have af := B5.2.2.2.1.frozen
    have al := B5.2.2.2.1.lt
    go_wp2_with (fail)
    obtain ⟨x1, x2, x3, x4, x5, x6⟩ := B5
    refine bodyPost_ret (ret_do rfl _ _ (w.heap.size + 1 + 1) (w.heap.size + 1 + 1 + 1) (.slice A g.1.length c) (.slice (some pr) g.2.length d) (.int .i64 9) (.int .u64 0) (.bool false) rfl (endG x3 x4) rfl (endA x3 x4)) rfl ?_
    rw [HDO.out, HE.out, if_neg HNN.out]
    exact ⟨_, rfl, HG.out.up (endU x5), endU x5⟩
  · have HE : Hid (errG g (th : Int) ⟨10, h, i, k, vv, t, l, m⟩ = 0) := Lib.hid (by rw [err10 rfl, if_neg he])
    have HNW : Hid (newG g (th : Int) ⟨10, h, i, k, vv, t, l, m⟩ = (g.1, g.2.set th (rowOf g (th : Int)).dropLast)) := Lib.hid (by
      show popG g (th : Int) = _
      unfold popG
      rw [Int.toNat_natCast])
    obtain ⟨ln, hln⟩ : ∃ ln, (rowOf g (th : Int)).length = ln + 1 := ⟨(rowOf g (th : Int)).length - 1, by
      have : (rowOf g (th : Int)).length ≠ 0 := fun q => he (List.eq_nil_of_length_eq_zero q)
      omega⟩
    rw [hln] at hc0 HX1 hsl hrx
    have zc0 := fun o1 o2 o3 o4 => Up.cell (((((Up.refl w).alloc o1).alloc o2).alloc o3).alloc o4) hc0
    have hb0 : (((ln + 1 : Nat) : Int) == 0) = false := beq_eq_false_iff_ne.2 (by omega)
    have HNS : Hid (NsW w (.slice A g.1.length c) us g.1) := Lib.hid ((hr w w (Kq.of (Up.refl w) (Up.refl w))).1)
    have HRW : Hid (Rw .i64 w (.slice (some pr) g.2.length d) g.2) := Lib.hid ((hr w w (Kq.of (Up.refl w) (Up.refl w))).2)
    have HCC := Lib.hid (fun W (u : Up w W) => rcopied_any (.slice A g.1.length c) (.slice (some pr) g.2.length d) g us W (HNS.out.up u) (HRW.out.up u) hF)
    have HLN := Lib.hid hln
    have hrow : g.2[th]? = some (rowOf g (th : Int)) := by unfold rowOf; rw [Int.toNat_natCast]; simp [List.getD, List.getElem?_eq_getElem htl]
    have HRO := Lib.hid hrow
    clear he hln hsl hrow
    clear hg hR hF hr hv hm ht
    go_enter Try.func19, Try.ntmps19
    go_wp2_with (fail)
    have B4 : Bxs w (.slice A g.1.length c) (.slice (some pr) g.2.length d) ⟨10, h, i, k, vv, t, l, m⟩ ((((w.alloc (.cells #[.slice A g.1.length c, .slice (some pr) g.2.length d] 25)).alloc (.cells #[.int .i64 10, .int .i64 h, .int .i64 i, .int .i64 k, .int .u64 vv, .int .i64 t, .int .i64 l, .int .u64 m] 30)).alloc (.cells #[.slice none 0 0, .slice none 0 0] 25)).alloc (.cells #[.int .i64 0, .int .u64 0, .bool false] 39)) :=
      ⟨(((Blk.new w _ _).alloc _).alloc _).alloc _, ((Blk.new' (w.alloc _) (by simp) _ _).alloc _).alloc _, Blk.alloc (Blk.new' ((w.alloc _).alloc _) (by simp) _ _) _, Blk.new' (((w.alloc _).alloc _).alloc _) (by simp) _ _, ((((Up.refl w).alloc _).alloc _).alloc _).alloc _, by simp⟩
    generalize ((((w.alloc (.cells #[.slice A g.1.length c, .slice (some pr) g.2.length d] 25)).alloc (.cells #[.int .i64 10, .int .i64 h, .int .i64 i, .int .i64 k, .int .u64 vv, .int .i64 t, .int .i64 l, .int .u64 m] 30)).alloc (.cells #[.slice none 0 0, .slice none 0 0] 25)).alloc (.cells #[.int .i64 0, .int .u64 0, .bool false] 39)) = W4 at *
    refine (HCC.out _ B4.2.2.2.2.1).mono ?_
    rintro e w5 ⟨vn, vs, us2, rfl, hO, k5⟩
    obtain ⟨gS, cS, cur, rfl, hge, hbS, hszS⟩ := hO.vsf (by omega)
    obtain ⟨An, cn, rfl⟩ := own_slice hO.nodes
    have hju : th < us2.length := by rw [hO.rows.1]; exact htl
    have hrw2 := hO.rows.2 th us2[th] _ (List.getElem?_eq_getElem hju) HRO.out
    rw [HLN.out] at hrw2
    obtain ⟨gr, cr, curr, hue, hger, hbr, hnr, hmr, hszr, htk⟩ : ∃ gr cr curr, us2[th] = .slice (some ⟨gr, 0, none⟩) (ln + 1) cr ∧ W4.heap.size ≤ gr ∧ Blk w5 gr 3 curr ∧ ln + 1 ≤ cr ∧ cr ≤ maxLen ∧ curr.size = cr * 1 ∧ curr.toList.take ((ln + 1) * 1) = (rowOf g (th : Int)).map (Value.int .i64) := by
      rcases hrw2.2 with ⟨_, q⟩ | ⟨gr, cr, curr, q, q1, q2, q3, q4, q5, q6⟩
      · omega
      · exact ⟨gr, cr, curr, q, q1, q2, q3, q4, q5, q6⟩
    have hcut : w5.ownsRow W4.heap.size 3 1 (.slice (some ⟨gr, 0, none⟩) ln cr) (rowOf g (th : Int)).dropLast.length ((rowOf g (th : Int)).dropLast.map (Value.int .i64)) := by
      have e1 : (rowOf g (th : Int)).dropLast.length = ln := by rw [List.length_dropLast, HLN.out]; omega
      rw [e1]
      refine ⟨by rw [List.length_map, e1]; omega, .inr ⟨gr, cr, curr, rfl, hger, hbr, by omega, hmr, hszr, ?_⟩⟩
      have e2 : curr.toList.take (ln * 1) = (curr.toList.take ((ln + 1) * 1)).take ln := by rw [List.take_take]; congr 1; omega
      rw [e2, htk, ← List.map_take, List.dropLast_eq_take, HLN.out]
      rfl
    have hcS : w5.cell? ⟨gS, th, none⟩ = some (.slice (some ⟨gr, 0, none⟩) (ln + 1) cr) := by
      have h1 := rv_of_own hO.own (by rw [hO.rows.1]; omega)
      obtain ⟨-, -, -, -, hrv⟩ := h1
      obtain ⟨p', e, hc⟩ := hrv.at_ (j := th) hju
      cases e
      rw [add_zero', hue] at hc
      exact hc
    have r1 := fun w => (run_cut1 (some ⟨gr, 0, none⟩) (ln + 1) cr ln (by omega) w).1
    have r2 := fun w => (run_cut1 (some ⟨gr, 0, none⟩) (ln + 1) cr ln (by omega) w).2
    have k6 : Up w5 (w5.alloc (.cells #[.slice An g.1.length cn, .slice (some ⟨gS, 0, none⟩) g.2.length cS] 25)) := (Up.refl w5).alloc _
    have bS6 := hbS.up k6
    have M6 := Blk.new w5 25 #[.slice An g.1.length cn, .slice (some ⟨gS, 0, none⟩) g.2.length cS]
    have M7 := M6.far (p := ⟨gS, th, none⟩) (M6.ne_type bS6 (by decide)) (.slice (some ⟨gr, 0, none⟩) ln cr)
    have B5 := B4.up k5
    have B6 := B5.up k6
    have B7 := B6.setC (D := gS) (i := th) (Nat.le_trans B4.2.2.2.2.2 hge) (.slice (some ⟨gr, 0, none⟩) ln cr)
    have O7 := (hO.up k6).setRow (j := th) (own_up hcut k6) bS6
    have HOO := Lib.hid O7
    have hcS6 := k6.cell hcS
    have hfS6 := bS6.frozen
    have hlS6 := bS6.lt
    have hcM := M6.cell
    have hlM := M6.lt
    have hcM7 := M7.cell
    have hlM7 := M7.lt
    have HK7 := Lib.hid (B5.2.2.2.2.1.trans k6)
    have HGE := Lib.hid (Nat.le_trans B4.2.2.2.2.1.size hge)
    clear hO hbS hszS hrw2 hue hger hbr hnr hszr htk hcut k5 O7 bS6 M6 M7 hge hju B6 B5 hcS
    have gc := B7.1.cell
    have gl := B7.1.lt
    have oc : ∀ zi, _ = (#[.int .i64 10, .int .i64 h, .int .i64 i, .int .i64 k, .int .u64 vv, .int .i64 t, .int .i64 l, .int .u64 m] : Array Value)[zi]? := B7.2.1.cell
    have ol := B7.2.1.lt
    have rc := B7.2.2.1.cell
    have rf := B7.2.2.1.frozen
    have rl := B7.2.2.1.lt
    have ac := B7.2.2.2.1.cell
    have af := B7.2.2.2.1.frozen
    have al := B7.2.2.2.1.lt
    go_wp2_with (fail)
    go_region
    generalize (w5.alloc (.cells #[.slice An g.1.length cn, .slice (some ⟨gS, 0, none⟩) g.2.length cS] 25)).setCell ⟨gS, th, none⟩ (.slice (some ⟨gr, 0, none⟩) ln cr) = w7 at *
    go_wp2_with (fail)
    have BK := B7
    obtain ⟨x1, x2, x3, x4, x5, x6⟩ := B7
    refine bodyPost_ret (ret_do rfl _ _ (w.heap.size + 1 + 1) (w.heap.size + 1 + 1 + 1) (.slice An g.1.length cn) (.slice (some ⟨gS, 0, none⟩) g.2.length cS) (.int .i64 0) (.int .u64 0) (.bool false) rfl (Blk.drew (endG x3 x4)) rfl (Blk.drew (endA x3 x4))) rfl ?_
    rw [HDO.out, if_pos HE.out]
    exact ⟨_, rfl, by rw [HNW.out]; exact (HOO.out.grR (w0 := w) (fun w' kk => (HRR.out w7 w' kk).1.gd)).gr (endK BK).drew, (endU x5).drew⟩
end Go.Proofs.Ytlocllcijncllaa
