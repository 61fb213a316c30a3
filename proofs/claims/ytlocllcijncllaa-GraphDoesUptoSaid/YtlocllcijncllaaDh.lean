/- The document's Do of graphs (dovecoteref15.Do), a new node: contracts. -/
import Derived.Test.YtlocllcijncllaaDf
namespace Go.Proofs.Ytlocllcijncllaa
open Go.Joins Go.ChangeShapes Go.WideShapes Go.ChangeAt Go.RowKit Go.Deep Go.Shelf Go.Maps
set_option linter.unusedVariables false
set_option linter.unusedSimpArgs false

/-- A node comes to a graph that was copied. -/
theorem alloc_c {w0 w wa : World} {A1 A2 : Option Addr} {c1 c2 l D base : Nat} {vs : Value} {g : Gr} {us us2 : List Value} {o : Op} (hl : o.l = l) (hl16 : l ≤ 16) (hO : OwnC base w (.slice A1 g.1.length c1) vs g us us2) (hD : Blk w D 25 #[.slice A1 g.1.length c1, vs])
    (hn : ∀ w', Up w0 w' → Gd .u64 w' us (g.1.map (·.2))) (k0 : Up w0 w) (hb0 : w0.heap.size ≤ base) (hbw : base ≤ w.heap.size) (hDb : base ≤ D) (b : Obj)
    (hoa : wa.ownsRow base 62 4 (.slice A2 (g.1.length + 1) c2) (g.1.length + 1) (nvs g.1 us ++ [.int .i64 o.t, .int .i64 l, .int .u64 o.m, .slice (some ⟨w.heap.size, 0, none⟩) l l]))
    (hga : (((w.alloc (.cells (List.replicate l (Value.int .u64 0)).toArray 26)).alloc b).drew).grownBy wa (Value.slice A1 g.1.length c1).ownBlock) :
    GrR w0 (wa.setCell ⟨D, 0, none⟩ (.slice A2 (g.1.length + 1) c2)) (.slice A2 (g.1.length + 1) c2) vs (us ++ [.slice (some ⟨w.heap.size, 0, none⟩) l l]) (allocN g o) ∧ Kf base w wa ∧ Blk wa D 25 #[.slice A1 g.1.length c1, vs] ∧ Blk (wa.setCell ⟨D, 0, none⟩ (.slice A2 (g.1.length + 1) c2)) D 25 #[.slice A2 (g.1.length + 1) c2, vs] := by
  have hUw : Up w (((w.alloc (.cells (List.replicate l (Value.int .u64 0)).toArray 26)).alloc b).drew) := (((Up.refl w).alloc _).alloc _).drew
  have hrow := own_up hO.nodes hUw
  have hk1 : ∀ g' t cs, 62 ≠ t → Blk w g' t cs → Blk wa g' t cs := fun g' t cs hne hb => (hb.up hUw).grown hga (own_row_ne hrow (hb.up hUw) hne)
  have hF0 : Blk wa w.heap.size 26 (List.replicate l (Value.int .u64 0)).toArray := by
    have h1 : Blk (((w.alloc (.cells (List.replicate l (Value.int .u64 0)).toArray 26)).alloc b).drew) w.heap.size 26 (List.replicate l (Value.int .u64 0)).toArray := Blk.drew ((Blk.new w _ _).alloc b)
    exact h1.grown hga (own_row_ne hrow h1 (by decide))
  have hDa := hk1 _ _ _ (by decide) hD
  have hK1 : Kf base w wa := by
    refine (Kf.of_up hUw).trans ?_
    cases e : (Value.slice A1 g.1.length c1).ownBlock with
    | none => rw [e] at hga; exact .of_up ((Up.refl _).grown hga (fun k q => by cases q))
    | some bn =>
      rw [e] at hga
      obtain ⟨hge, -⟩ := World.ownsRow.lt hrow bn e
      rcases hrow.2 with ⟨q, -⟩ | ⟨gN, cap, cur, q, -, hg, -⟩
      · rw [q] at e; cases e
      · rw [q] at e
        have : gN = bn := by simpa [Value.ownBlock] using e
        subst this
        exact .of_gb hga (t := 62) (cs := cur) hg hge (by decide) (by decide)
  have hDs : Blk (wa.setCell ⟨D, 0, none⟩ (.slice A2 (g.1.length + 1) c2)) D 25 #[.slice A2 (g.1.length + 1) c2, vs] := by simpa using hDa.set_ 0 (.slice A2 (g.1.length + 1) c2)
  have hul : us.length = g.1.length := by rw [(hn w k0).1, List.length_map]
  have hks : ∀ b' t cs, t ≠ 25 → Blk wa b' t cs → Blk (wa.setCell ⟨D, 0, none⟩ (.slice A2 (g.1.length + 1) c2)) b' t cs := fun b' t cs h1 hb => hb.far (p := ⟨D, 0, none⟩) (hb.ne_type hDa h1) _
  have hO2 : OwnC base (wa.setCell ⟨D, 0, none⟩ (.slice A2 (g.1.length + 1) c2)) (.slice A2 (g.1.length + 1) c2) vs (allocN g o) (us ++ [.slice (some ⟨w.heap.size, 0, none⟩) l l]) us2 := by
    refine ⟨?_, own_keep hO.own (fun b' cs hb => hks b' _ cs (by decide) (hk1 b' _ cs (by decide) hb)), hO.rows.keep (fun b' cs hb => hks b' _ cs (by decide) (hk1 b' _ cs (by decide) hb))⟩
    show World.ownsRow _ base 62 4 _ (g.1 ++ [((o.t, o.l, o.m), List.replicate o.l.toNat 0)]).length (nvs (g.1 ++ [((o.t, o.l, o.m), List.replicate o.l.toNat 0)]) (us ++ [.slice (some ⟨w.heap.size, 0, none⟩) l l]))
    rw [List.length_append, List.length_singleton, nvs_app _ _ _ _ hul, hl]
    exact own_keep hoa (fun b' cs hb => hks b' _ cs (by decide) hb)
  refine ⟨hO2.grR (fun w' k => ?_), hK1, hDa, hDs⟩
  · show Gd .u64 _ _ ((g.1 ++ [((o.t, o.l, o.m), List.replicate o.l.toNat 0)]).map (fun n : Nd => n.2))
    rw [List.map_append]
    have hg1 := hn w' k.up
    have hsl : Sl .u64 w' (.slice (some ⟨w.heap.size, 0, none⟩) l l) (List.replicate o.l.toNat 0) := by
      rw [hl, Int.toNat_natCast]
      have hb := k.keep _ _ _ (by decide) (by decide) (hks _ _ _ (by decide) hF0)
      refine ⟨some ⟨w.heap.size, 0, none⟩, l, by rw [List.length_replicate], by rw [List.length_replicate]; exact Nat.le_refl _, by unfold maxLen; omega, fun q => (by cases q), rv_of_blk hb (fun i v hi => ?_)⟩
      rw [List.map_replicate] at hi
      rw [List.getElem?_toArray]
      exact hi
    refine ⟨by simp [hul], fun j u xs h1 h2 => ?_⟩
    rcases Nat.lt_or_ge j us.length with q | q
    · rw [List.getElem?_append_left q] at h1
      rw [List.getElem?_append_left (by rw [List.length_map]; omega)] at h2
      exact hg1.2 j u xs h1 h2
    · rw [List.getElem?_append_right q] at h1
      rw [List.getElem?_append_right (by rw [List.length_map]; omega)] at h2
      have hj : j - us.length = 0 := by
        rcases Nat.eq_zero_or_pos (j - us.length) with q2 | q2
        · exact q2
        · rw [List.getElem?_eq_none (by rw [List.length_singleton]; exact q2)] at h1; cases h1
      rw [hj] at h1
      rw [List.length_map, show j - g.1.length = 0 from by omega] at h2
      simp only [List.getElem?_cons_zero, Option.some.injEq, List.map_cons, List.map_nil] at h1 h2
      subst h1
      subst h2
      exact hsl
set_option maxRecDepth 100000 in
set_option maxHeartbeats 4000000 in
theorem rdo_1 (v : Value) (g : Gr) (th h i k vv t l m : Int) (w : World) (hg : GrV w v g) (hR : Rg g) (hn : g.1.length ≤ 1000000) (hF : FitG g) (ht : isTh g th) (hv : U64 vv) (hm : U64 m) (hn1 : g.1.length ≤ 999999) (hs1 : g.2.length ≤ 1000000) : Calls Try.prog 19 #[v, .int .i64 th, .agg #[.int .i64 1, .int .i64 h, .int .i64 i, .int .i64 k, .int .u64 vv, .int .i64 t, .int .i64 l, .int .u64 m]] w (DoPost (doG g th ⟨1, h, i, k, vv, t, l, m⟩) w) := by
  obtain ⟨A, c, B, d, rfl, m1, m2⟩ := hg.form
  obtain ⟨us, hr⟩ := GrR.of hg
  have d0 : decide (th < 0) = false := decide_eq_false (by have := ht.1; omega)
  have d1 : decide (th ≥ (g.2.length : Int)) = false := decide_eq_false (by have := ht.2; omega)
  have HDO : Hid (doG g th ⟨1, h, i, k, vv, t, l, m⟩ = if errG g th ⟨1, h, i, k, vv, t, l, m⟩ = 0 then (newG g th ⟨1, h, i, k, vv, t, l, m⟩, (0, ansV g th ⟨1, h, i, k, vv, t, l, m⟩, ansY g th ⟨1, h, i, k, vv, t, l, m⟩)) else (g, (errG g th ⟨1, h, i, k, vv, t, l, m⟩, 0, false))) := Lib.hid (by unfold doG; rw [if_pos ht])
  have HG := Lib.hid hg
  have HRR := Lib.hid hr
  have HNO := Lib.hid (fun W (u : Up w W) z => rno_any (.agg #[.slice A g.1.length c, .slice B g.2.length d]) g z W (hg.up u))
  have HRT := Lib.hid (fun W => rright_any t l m hm.1 W)
  by_cases hx0 : rte t l m = 0
  · by_cases hx1 : t = 255
    · have HE : Hid (errG g th ⟨1, h, i, k, vv, t, l, m⟩ = 1) := Lib.hid (by rw [err1 rfl]; unfold okH; simp [hx1])
      have HNN := Lib.hid (show (1 : Int) ≠ 0 by decide)
      subst hx1
      rw [hx0] at HRT
      clear hx0
      clear hg hR hF hr hv hm ht
      go_enter Try.func19, Try.ntmps19
      go_wp2_with (fail)
      have B4 : Bxs w (.slice A g.1.length c) (.slice B g.2.length d) ⟨1, h, i, k, vv, 255, l, m⟩ ((((w.alloc (.cells #[.slice A g.1.length c, .slice B g.2.length d] 25)).alloc (.cells #[.int .i64 1, .int .i64 h, .int .i64 i, .int .i64 k, .int .u64 vv, .int .i64 255, .int .i64 l, .int .u64 m] 30)).alloc (.cells #[.slice none 0 0, .slice none 0 0] 25)).alloc (.cells #[.int .i64 0, .int .u64 0, .bool false] 39)) :=
        ⟨(((Blk.new w _ _).alloc _).alloc _).alloc _, ((Blk.new' (w.alloc _) (by simp) _ _).alloc _).alloc _, Blk.alloc (Blk.new' ((w.alloc _).alloc _) (by simp) _ _) _, Blk.new' (((w.alloc _).alloc _).alloc _) (by simp) _ _, ((((Up.refl w).alloc _).alloc _).alloc _).alloc _, by simp⟩
      generalize ((((w.alloc (.cells #[.slice A g.1.length c, .slice B g.2.length d] 25)).alloc (.cells #[.int .i64 1, .int .i64 h, .int .i64 i, .int .i64 k, .int .u64 vv, .int .i64 255, .int .i64 l, .int .u64 m] 30)).alloc (.cells #[.slice none 0 0, .slice none 0 0] 25)).alloc (.cells #[.int .i64 0, .int .u64 0, .bool false] 39)) = W4 at *
      refine (HRT.out _).mono ?_
      rintro e w5 ⟨rfl, k5⟩
      have B5 := B4.up k5
      have gc := B5.1.cell
      have gl := B5.1.lt
      have oc : ∀ zi, _ = (#[.int .i64 1, .int .i64 h, .int .i64 i, .int .i64 k, .int .u64 vv, .int .i64 255, .int .i64 l, .int .u64 m] : Array Value)[zi]? := B5.2.1.cell
      have ol := B5.2.1.lt
      have rc := B5.2.2.1.cell
      have rf := B5.2.2.1.frozen
      have rl := B5.2.2.1.lt
      have ac := B5.2.2.2.1.cell
      have af := B5.2.2.2.1.frozen
      have al := B5.2.2.2.1.lt
      go_wp2_with (fail)
      clear gc gl oc ol rc rf rl ac af al
      refine (HNO.out _ B5.2.2.2.2.1 1).mono ?_
      rintro e w6 ⟨rfl, k6⟩
      have B6 := B5.up k6
      have gc := B6.1.cell
      have gl := B6.1.lt
      have oc : ∀ zi, _ = (#[.int .i64 1, .int .i64 h, .int .i64 i, .int .i64 k, .int .u64 vv, .int .i64 255, .int .i64 l, .int .u64 m] : Array Value)[zi]? := B6.2.1.cell
      have ol := B6.2.1.lt
      have rc := B6.2.2.1.cell
      have rf := B6.2.2.1.frozen
      have rl := B6.2.2.1.lt
      have ac := B6.2.2.2.1.cell
      have af := B6.2.2.2.1.frozen
      have al := B6.2.2.2.1.lt
      go_wp2_with (fail)
      obtain ⟨x1, x2, x3, x4, x5, x6⟩ := B6
      refine bodyPost_ret (ret_do rfl _ _ (w.heap.size + 1 + 1) (w.heap.size + 1 + 1 + 1) (.slice A g.1.length c) (.slice B g.2.length d) (.int .i64 (1)) (.int .u64 0) (.bool false) rfl (endG x3 x4) rfl (endA x3 x4)) rfl ?_
      rw [HDO.out, HE.out, if_neg HNN.out]
      exact ⟨_, rfl, HG.out.up (endU x5), endU x5⟩
    · have hok : okH t l m = true := by unfold okH; rw [decide_eq_true hx0, decide_eq_true hx1]; rfl
      have hl := okH_len hok
      have HE : Hid (errG g th ⟨1, h, i, k, vv, t, l, m⟩ = rme g th) := Lib.hid (by rw [err1 rfl, if_pos hok])
      have HNW : Hid (newG g th ⟨1, h, i, k, vv, t, l, m⟩ = pushG (allocN g ⟨1, h, i, k, vv, t, l, m⟩) th (g.1.length + 1)) := Lib.hid rfl
      have hRA := alloc_rg (o := ⟨1, h, i, k, vv, t, l, m⟩) hR hok hm
      have hFA := hRA.fit (by simp [allocN]; omega) hs1 hF.h
      have hb255 : (t == 255) = false := beq_eq_false_iff_ne.2 hx1
      have HCC := Lib.hid (fun W (u : Up w W) => rcopied_any (.slice A g.1.length c) (.slice B g.2.length d) g us W (((hr w w (Kq.of (Up.refl w) (Up.refl w))).1).up u) (((hr w w (Kq.of (Up.refl w) (Up.refl w))).2).up u) hF)
      have HPU := Lib.hid (fun A8 B8 c8 d8 n8 s8 us8 W (u : Up w W) (h8 : GrR w W (.slice A8 n8 c8) (.slice B8 s8 d8) us8 (allocN g ⟨1, h, i, k, vv, t, l, m⟩)) => rpush_any A8 B8 c8 d8 n8 s8 us8 (allocN g ⟨1, h, i, k, vv, t, l, m⟩) th ((g.1.length : Int) + 1) w W u h8 ht hFA)
      obtain ⟨l, rfl⟩ : ∃ j : Nat, l = j := ⟨l.toNat, by omega⟩
      have hl16 : l ≤ 16 := by omega
      have hmk := fun w => make_words l hl16 w
      have hGD := Lib.hid (fun W (u : Up w W) => ((hr W W (Kq.of u (Up.refl W))).1).gd)
      have hz1 : rme (allocN g ⟨1, h, i, k, vv, t, (l : Int), m⟩) th = rme g th := rfl
      obtain ⟨z, hz⟩ : ∃ z, rme g th = z := ⟨_, rfl⟩
      rw [hz1, hz] at HPU
      rw [hz] at HE
      clear hz1 hz
      rw [hx0] at HRT
      clear hx0 hx1 hok hl hRA hFA hs1
      clear hg hR hF hr hv hm ht
      go_enter Try.func19, Try.ntmps19
      go_wp2_with (fail)
      have B4 : Bxs w (.slice A g.1.length c) (.slice B g.2.length d) ⟨1, h, i, k, vv, t, (l : Int), m⟩ ((((w.alloc (.cells #[.slice A g.1.length c, .slice B g.2.length d] 25)).alloc (.cells #[.int .i64 1, .int .i64 h, .int .i64 i, .int .i64 k, .int .u64 vv, .int .i64 t, .int .i64 (l : Int), .int .u64 m] 30)).alloc (.cells #[.slice none 0 0, .slice none 0 0] 25)).alloc (.cells #[.int .i64 0, .int .u64 0, .bool false] 39)) :=
        ⟨(((Blk.new w _ _).alloc _).alloc _).alloc _, ((Blk.new' (w.alloc _) (by simp) _ _).alloc _).alloc _, Blk.alloc (Blk.new' ((w.alloc _).alloc _) (by simp) _ _) _, Blk.new' (((w.alloc _).alloc _).alloc _) (by simp) _ _, ((((Up.refl w).alloc _).alloc _).alloc _).alloc _, by simp⟩
      generalize ((((w.alloc (.cells #[.slice A g.1.length c, .slice B g.2.length d] 25)).alloc (.cells #[.int .i64 1, .int .i64 h, .int .i64 i, .int .i64 k, .int .u64 vv, .int .i64 t, .int .i64 (l : Int), .int .u64 m] 30)).alloc (.cells #[.slice none 0 0, .slice none 0 0] 25)).alloc (.cells #[.int .i64 0, .int .u64 0, .bool false] 39)) = W4 at *
      refine (HRT.out _).mono ?_
      rintro e w5 ⟨rfl, k5⟩
      have B5 := B4.up k5
      have gc := B5.1.cell
      have gl := B5.1.lt
      have oc : ∀ zi, _ = (#[.int .i64 1, .int .i64 h, .int .i64 i, .int .i64 k, .int .u64 vv, .int .i64 t, .int .i64 (l : Int), .int .u64 m] : Array Value)[zi]? := B5.2.1.cell
      have ol := B5.2.1.lt
      have rc := B5.2.2.1.cell
      have rf := B5.2.2.1.frozen
      have rl := B5.2.2.1.lt
      have ac := B5.2.2.2.1.cell
      have af := B5.2.2.2.1.frozen
      have al := B5.2.2.2.1.lt
      go_wp2_with (fail)
      clear gc gl oc ol rc rf rl ac af al
      refine (HCC.out _ B5.2.2.2.2.1).mono ?_
      rintro e w6 ⟨vn, vs, us2, rfl, hO, k6⟩
      obtain ⟨An, cn, rfl⟩ := own_slice hO.nodes
      obtain ⟨As, cs, rfl⟩ := own_slice hO.own
      have B6 := B5.up k6
      obtain ⟨w7, hw7⟩ : ∃ w7, w7 = w6.alloc (.cells #[.slice An g.1.length cn, .slice As g.2.length cs] 25) := ⟨_, rfl⟩
      have k7 : Up w6 w7 := by rw [hw7]; exact (Up.refl w6).alloc _
      have D7 : Blk w7 w6.heap.size 25 #[.slice An g.1.length cn, .slice As g.2.length cs] := by rw [hw7]; exact Blk.new w6 _ _
      have B7 := B6.up k7
      have hO7 := (hO.le B5.2.2.2.2.2).up k7
      have HO7 := Lib.hid hO7
      have HOn : Hid (∀ a b, (((w7.alloc a).alloc b).drew).ownsRow (w.heap.size + 1 + 1 + 1 + 1) 62 4 (.slice An g.1.length cn) g.1.length (nvs g.1 us)) := Lib.hid (fun a b => own_up hO7.nodes (((Up.refl w7).alloc a).alloc b).drew)
      have hD6 : w.heap.size + 1 + 1 + 1 + 1 ≤ w6.heap.size := B6.2.2.2.2.2
      have hw7s : w.heap.size + 1 + 1 + 1 + 1 ≤ w7.heap.size := B7.2.2.2.2.2
      have DG : Hid (∀ (a b : Obj) (wa : World), (((w7.alloc a).alloc b).drew).grownBy wa (Value.slice An g.1.length cn).ownBlock → Blk wa w6.heap.size 25 #[.slice An g.1.length cn, .slice As g.2.length cs]) := Lib.hid (fun a b wa h => Blk.grown (Blk.drew ((D7.alloc a).alloc b)) h (own_row_ne (HOn.out a b) (Blk.drew ((D7.alloc a).alloc b)) (by decide)))
      have qD := D7.cell
      have lD := D7.lt
      clear hO hO7 k5 k6 k7
      have gc := B7.1.cell
      have gl := B7.1.lt
      have oc : ∀ zi, _ = (#[.int .i64 1, .int .i64 h, .int .i64 i, .int .i64 k, .int .u64 vv, .int .i64 t, .int .i64 (l : Int), .int .u64 m] : Array Value)[zi]? := B7.2.1.cell
      have ol := B7.2.1.lt
      have rc := B7.2.2.1.cell
      have rf := B7.2.2.1.frozen
      have rl := B7.2.2.1.lt
      have ac := B7.2.2.2.1.cell
      have af := B7.2.2.2.1.frozen
      have al := B7.2.2.2.1.lt
      go_wp2_with (fail)
      rw [← hw7]
      clear hw7
      go_region_law (refine step_node (W0 := w7) (by rfl) _ _ (by rfl) (w.heap.size + 1 + 1 + 1 + 1) g.1.length (.slice An g.1.length cn) (nvs g.1 us) (by rfl) (HOn.out _ _) (w7.heap.size + 1) 1 (.int .i64 t) (.int .i64 l) (.int .u64 m) (.slice (some ⟨w7.heap.size, 0, none⟩) l l) (by rfl) (Blk.drew (Blk.new' _ (by simp) _ _)) (by intro z hz; simp only [List.mem_cons, List.not_mem_nil, or_false] at hz; rcases hz with rfl | rfl | rfl | rfl <;> rfl) (by omega) (by simp; omega) ?_; intro A2 c2 wa hoa hga; have DA := DG.out _ _ wa hga; have DAc := DA.cell; have DAf := DA.frozen; have DAl := DA.lt)
      all_goals
        obtain ⟨hr8, kf, D8a, D8⟩ := alloc_c (w0 := w) (w := w7) (D := w6.heap.size) (base := w.heap.size + 1 + 1 + 1 + 1) (o := ⟨1, h, i, k, vv, t, (l : Int), m⟩) rfl hl16 HO7.out D7 hGD.out B7.2.2.2.2.1 (by omega) hw7s hD6 _ hoa (by rw [List.toArray_replicate]; exact hga)
        have B8 := (B7.kf kf).setC (D := w6.heap.size) (i := 0) hD6 (.slice A2 (g.1.length + 1) c2)
        have qD8 := D8.cell
        have lD8 := D8.lt
        have HR8 := Lib.hid hr8
        clear hoa hga DA DAc DAf DAl hr8 kf D8a D8 qD lD gc gl oc ol rc rf rl ac af al
        generalize wa.setCell ⟨w6.heap.size, 0, none⟩ (.slice A2 (g.1.length + 1) c2) = w8 at *
        have gc := B8.1.cell
        have gl := B8.1.lt
        have oc : ∀ zi, _ = (#[.int .i64 1, .int .i64 h, .int .i64 i, .int .i64 k, .int .u64 vv, .int .i64 t, .int .i64 (l : Int), .int .u64 m] : Array Value)[zi]? := B8.2.1.cell
        have ol := B8.2.1.lt
        have rc := B8.2.2.1.cell
        have rf := B8.2.2.1.frozen
        have rl := B8.2.2.1.lt
        have ac := B8.2.2.2.1.cell
        have af := B8.2.2.2.1.frozen
        have al := B8.2.2.2.1.lt
        go_wp2_with (fail)
        refine (HPU.out _ _ _ _ _ _ _ _ B8.2.2.2.2.1 HR8.out).mono ?_
        rintro e w9 ⟨A9, n9, c9, C9, s9, d9, us9, rfl, hr9, k9⟩
        have B9 := B8.up k9
        have B10 := B9.up ((Up.refl w9).alloc (.cells #[.slice A9 n9 c9, .slice C9 s9 d9] 25))
        have HR10 := Lib.hid (hr9.upw ((Up.refl w9).alloc (.cells #[.slice A9 n9 c9, .slice C9 s9 d9] 25)))
        clear hr9 qD8 lD8
        clear gc gl oc ol rc rf rl ac af al
        have gc := B10.1.cell
        have gl := B10.1.lt
        have oc : ∀ zi, _ = (#[.int .i64 1, .int .i64 h, .int .i64 i, .int .i64 k, .int .u64 vv, .int .i64 t, .int .i64 (l : Int), .int .u64 m] : Array Value)[zi]? := B10.2.1.cell
        have ol := B10.2.1.lt
        have rc := B10.2.2.1.cell
        have rf := B10.2.2.1.frozen
        have rl := B10.2.2.1.lt
        have ac := B10.2.2.2.1.cell
        have af := B10.2.2.2.1.frozen
        have al := B10.2.2.2.1.lt
        by_cases hz : z = 0
        · subst hz
          have q := HR10.out
          rw [if_pos rfl] at q
          have HRQ := Lib.hid q
          clear q HR10
          go_wp2_with (fail)
          have BK := B10
          obtain ⟨x1, x2, x3, x4, x5, x6⟩ := B10
          refine bodyPost_ret (ret_do rfl _ _ (w.heap.size + 1 + 1) (w.heap.size + 1 + 1 + 1) (.slice A9 n9 c9) (.slice C9 s9 d9) (.int .i64 0) (.int .u64 0) (.bool false) rfl (endG x3 x4) rfl (endA x3 x4)) rfl ?_
          rw [HDO.out, if_pos HE.out]
          exact ⟨_, rfl, by rw [HNW.out]; exact HRQ.out.gr (endK BK), endU x5⟩
        · have hb : (z != 0) = true := bne_iff_ne.2 hz
          have HNE := Lib.hid hz
          clear hz
          go_wp2_with (fail)
          clear gc gl oc ol rc rf rl ac af al
          refine (HNO.out _ B10.2.2.2.2.1 z).mono ?_
          rintro e w11 ⟨rfl, k11⟩
          have B11 := B10.up k11
          have gc := B11.1.cell
          have gl := B11.1.lt
          have oc : ∀ zi, _ = (#[.int .i64 1, .int .i64 h, .int .i64 i, .int .i64 k, .int .u64 vv, .int .i64 t, .int .i64 (l : Int), .int .u64 m] : Array Value)[zi]? := B11.2.1.cell
          have ol := B11.2.1.lt
          have rc := B11.2.2.1.cell
          have rf := B11.2.2.1.frozen
          have rl := B11.2.2.1.lt
          have ac := B11.2.2.2.1.cell
          have af := B11.2.2.2.1.frozen
          have al := B11.2.2.2.1.lt
          go_wp2_with (fail)
          obtain ⟨x1, x2, x3, x4, x5, x6⟩ := B11
          refine bodyPost_ret (ret_do rfl _ _ (w.heap.size + 1 + 1) (w.heap.size + 1 + 1 + 1) (.slice A g.1.length c) (.slice B g.2.length d) (.int .i64 (z)) (.int .u64 0) (.bool false) rfl (endG x3 x4) rfl (endA x3 x4)) rfl ?_
          rw [HDO.out, HE.out, if_neg HNE.out]
          exact ⟨_, rfl, HG.out.up (endU x5), endU x5⟩
  · have HE : Hid (errG g th ⟨1, h, i, k, vv, t, l, m⟩ = 1) := Lib.hid (by rw [err1 rfl]; unfold okH; simp [hx0])
    have HNN := Lib.hid (show (1 : Int) ≠ 0 by decide)
    obtain ⟨x, hx⟩ : ∃ x, rte t l m = x := ⟨_, rfl⟩
    rw [hx] at HRT hx0
    have hb : (x != 0) = true := bne_iff_ne.2 hx0
    clear hx hx0
    clear hg hR hF hr hv hm ht
    go_enter Try.func19, Try.ntmps19
    go_wp2_with (fail)
    have B4 : Bxs w (.slice A g.1.length c) (.slice B g.2.length d) ⟨1, h, i, k, vv, t, l, m⟩ ((((w.alloc (.cells #[.slice A g.1.length c, .slice B g.2.length d] 25)).alloc (.cells #[.int .i64 1, .int .i64 h, .int .i64 i, .int .i64 k, .int .u64 vv, .int .i64 t, .int .i64 l, .int .u64 m] 30)).alloc (.cells #[.slice none 0 0, .slice none 0 0] 25)).alloc (.cells #[.int .i64 0, .int .u64 0, .bool false] 39)) :=
      ⟨(((Blk.new w _ _).alloc _).alloc _).alloc _, ((Blk.new' (w.alloc _) (by simp) _ _).alloc _).alloc _, Blk.alloc (Blk.new' ((w.alloc _).alloc _) (by simp) _ _) _, Blk.new' (((w.alloc _).alloc _).alloc _) (by simp) _ _, ((((Up.refl w).alloc _).alloc _).alloc _).alloc _, by simp⟩
    generalize ((((w.alloc (.cells #[.slice A g.1.length c, .slice B g.2.length d] 25)).alloc (.cells #[.int .i64 1, .int .i64 h, .int .i64 i, .int .i64 k, .int .u64 vv, .int .i64 t, .int .i64 l, .int .u64 m] 30)).alloc (.cells #[.slice none 0 0, .slice none 0 0] 25)).alloc (.cells #[.int .i64 0, .int .u64 0, .bool false] 39)) = W4 at *
    refine (HRT.out _).mono ?_
    rintro e w5 ⟨rfl, k5⟩
    have B5 := B4.up k5
    have gc := B5.1.cell
    have gl := B5.1.lt
    have oc : ∀ zi, _ = (#[.int .i64 1, .int .i64 h, .int .i64 i, .int .i64 k, .int .u64 vv, .int .i64 t, .int .i64 l, .int .u64 m] : Array Value)[zi]? := B5.2.1.cell
    have ol := B5.2.1.lt
    have rc := B5.2.2.1.cell
    have rf := B5.2.2.1.frozen
    have rl := B5.2.2.1.lt
    have ac := B5.2.2.2.1.cell
    have af := B5.2.2.2.1.frozen
    have al := B5.2.2.2.1.lt
    go_wp2_with (fail)
    clear gc gl oc ol rc rf rl ac af al
    refine (HNO.out _ B5.2.2.2.2.1 1).mono ?_
    rintro e w6 ⟨rfl, k6⟩
    have B6 := B5.up k6
    have gc := B6.1.cell
    have gl := B6.1.lt
    have oc : ∀ zi, _ = (#[.int .i64 1, .int .i64 h, .int .i64 i, .int .i64 k, .int .u64 vv, .int .i64 t, .int .i64 l, .int .u64 m] : Array Value)[zi]? := B6.2.1.cell
    have ol := B6.2.1.lt
    have rc := B6.2.2.1.cell
    have rf := B6.2.2.1.frozen
    have rl := B6.2.2.1.lt
    have ac := B6.2.2.2.1.cell
    have af := B6.2.2.2.1.frozen
    have al := B6.2.2.2.1.lt
    go_wp2_with (fail)
    obtain ⟨x1, x2, x3, x4, x5, x6⟩ := B6
    refine bodyPost_ret (ret_do rfl _ _ (w.heap.size + 1 + 1) (w.heap.size + 1 + 1 + 1) (.slice A g.1.length c) (.slice B g.2.length d) (.int .i64 (1)) (.int .u64 0) (.bool false) rfl (endG x3 x4) rfl (endA x3 x4)) rfl ?_
    rw [HDO.out, HE.out, if_neg HNN.out]
    exact ⟨_, rfl, HG.out.up (endU x5), endU x5⟩
/-! The document's Do of graphs (dovecoteref15.Do), whole: contract. -/

theorem rdo_any (v : Value) (g : Gr) (th kd h i k vv t l m : Int) (w : World) (hg : GrV w v g) (hR : Rg g) (hn1 : g.1.length ≤ 999999) (hs1 : g.2.length ≤ 1000000) (hF : FitG g) (hv : U64 vv) (hm : U64 m) : Calls Try.prog 19 #[v, .int .i64 th, .agg #[.int .i64 kd, .int .i64 h, .int .i64 i, .int .i64 k, .int .u64 vv, .int .i64 t, .int .i64 l, .int .u64 m]] w (DoPost (doG g th ⟨kd, h, i, k, vv, t, l, m⟩) w) := by
  have hn : g.1.length ≤ 1000000 := by omega
  by_cases ht : isTh g th
  · by_cases hk : kd < 1 ∨ 11 < kd
    · have e : doG g th ⟨kd, h, i, k, vv, t, l, m⟩ = (g, (1, 0, false)) := by
        unfold doG
        rw [if_pos ht, errO hk, if_neg (by decide)]
      rw [e]
      exact rdo_arg v g th kd h i k vv t l m w hg (.inr hk)
    · have hc : kd = 1 ∨ kd = 2 ∨ kd = 3 ∨ kd = 4 ∨ kd = 5 ∨ kd = 6 ∨ kd = 7 ∨ kd = 8 ∨ kd = 9 ∨ kd = 10 ∨ kd = 11 := by omega
      rcases hc with rfl | rfl | rfl | rfl | rfl | rfl | rfl | rfl | rfl | rfl | rfl
      · exact rdo_1 v g th h i k vv t l m w hg hR hn hF ht hv hm hn1 hs1
      · exact rdo_2 v g th h i k vv t l m w hg hR hn hF ht hv hm
      · exact rdo_3 v g th h i k vv t l m w hg hR hn hF ht hv hm
      · exact rdo_4 v g th h i k vv t l m w hg hR hn hF ht hv hm
      · exact rdo_5 v g th h i k vv t l m w hg hR hn hF ht hv hm
      · exact rdo_6 v g th h i k vv t l m w hg hR hn hF ht hv hm
      · exact rdo_7 v g th h i k vv t l m w hg hR hn hF ht hv hm
      · exact rdo_8 v g th h i k vv t l m w hg hR hn hF ht hv hm
      · exact rdo_9 v g th h i k vv t l m w hg hR hn hF ht hv hm
      · exact rdo_10 v g th h i k vv t l m w hg hR hn hF ht hv hm
      · exact rdo_11 v g th h i k vv t l m w hg hR hn hF ht hv hm
  · have e : doG g th ⟨kd, h, i, k, vv, t, l, m⟩ = (g, (1, 0, false)) := by
      unfold doG
      rw [if_neg ht]
    rw [e]
    exact rdo_arg v g th kd h i k vv t l m w hg (.inl ht)
end Go.Proofs.Ytlocllcijncllaa
