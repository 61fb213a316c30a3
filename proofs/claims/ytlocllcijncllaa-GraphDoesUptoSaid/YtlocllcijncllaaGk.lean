/- A node comes (graph's deed: alloc): contract. -/
import Derived.Test.YtlocllcijncllaaGj
import Derived.Deep.RegionLaw
namespace Go.Proofs.Ytlocllcijncllaa
open Go.Joins Go.ChangeShapes Go.WideShapes Go.ChangeAt Go.RowKit Go.Deep Go.Shelf Go.Maps
set_option linter.unusedVariables false
set_option linter.unusedSimpArgs false

theorem alloc_md {base D : Nat} {g : Gr} {th : Int} {o : Op} {s : Kn} {w wa : World} {A1 A2 : Option Addr} {c1 c2 l n : Nat} {vs : Value} {us us2 : List Value} {BF GS BS : Nat} (hn : g.1.length = n) (hl : o.l = l) (hD : Blk w D 70 (dcs (.slice A1 n c1) vs th o s)) (hO : OwnG base w (.slice A1 n c1) vs g us us2 BF GS BS) (hB : base ≤ D) (ht : isTh g th) (hb0 : base ≤ w.heap.size) (hl16 : l ≤ 16) (b : Obj)
    (hoa : wa.ownsRow base 62 4 (.slice A2 (n + 1) c2) (n + 1) (nvs g.1 us ++ [.int .i64 o.t, .int .i64 l, .int .u64 o.m, .slice (some ⟨w.heap.size, 0, none⟩) l l]))
    (hga : (((w.alloc (.cells (List.replicate l (Value.int .u64 0)).toArray 26)).alloc b).drew).grownBy wa (Value.slice A1 n c1).ownBlock) :
    Kf base w (wa.setCell ⟨D, 0, none⟩ (.slice A2 (n + 1) c2)) ∧ Md base D (wa.setCell ⟨D, 0, none⟩ (.slice A2 (n + 1) c2)) (allocN g o) th o s := by
  subst hn
  have hUw : Up w (((w.alloc (.cells (List.replicate l (Value.int .u64 0)).toArray 26)).alloc b).drew) := (((Up.refl w).alloc _).alloc _).drew
  have hrow := own_up hO.nodes hUw
  have hk1 : ∀ g' t cs, 62 ≠ t → Blk w g' t cs → Blk wa g' t cs := fun g' t cs hne hb => (hb.up hUw).grown hga (own_row_ne hrow (hb.up hUw) hne)
  have hF0 : Blk wa w.heap.size 26 (List.replicate l (Value.int .u64 0)).toArray := by
    have h1 : Blk (((w.alloc (.cells (List.replicate l (Value.int .u64 0)).toArray 26)).alloc b).drew) w.heap.size 26 (List.replicate l (Value.int .u64 0)).toArray := Blk.drew ((Blk.new w _ _).alloc b)
    exact h1.grown hga (own_row_ne hrow h1 (by decide))
  have hDa : Blk wa D 70 (dcs (.slice A1 g.1.length c1) vs th o s) := hk1 _ _ _ (by decide) hD
  have hK1 : Kf base w wa := by
    refine (Kf.of_up hUw).trans ?_
    cases e : (Value.slice A1 g.1.length c1).ownBlock with
    | none => rw [e] at hga; exact .of_up ((Up.refl _).grown hga (fun k q => by cases q))
    | some bn =>
      rw [e] at hga
      obtain ⟨hge, -⟩ := World.ownsRow.lt hrow bn e
      rcases hrow.2 with ⟨q, -⟩ | ⟨gN, cap, cur, q, -, hg, -⟩
      · rw [q] at e; cases e
      · rw [q] at e
        have : gN = bn := by simpa [Value.ownBlock] using e
        subst this
        exact .of_gb hga (t := 62) (cs := cur) hg hge (by decide) (by decide)
  have hv := hO.val
  subst hv
  have hset : (dcs (.slice A1 g.1.length c1) (.slice (some ⟨GS, 0, none⟩) g.2.length g.2.length) th o s).setIfInBounds 0 (.slice A2 (g.1.length + 1) c2) = dcs (.slice A2 (g.1.length + 1) c2) (.slice (some ⟨GS, 0, none⟩) g.2.length g.2.length) th o s := rfl
  have hDs := hDa.set_ 0 (.slice A2 (g.1.length + 1) c2)
  rw [hset] at hDs
  have hcf := (hO.flds.keep (w' := wa) (fun g' cs hb => hk1 g' _ cs (by decide) hb)).far hDa (by decide) 0 (.slice A2 (g.1.length + 1) c2)
  have hcr := (hO.rows.keep (w' := wa) (fun g' cs hb => hk1 g' _ cs (by decide) hb)).far hDa (by decide) 0 (.slice A2 (g.1.length + 1) c2)
  have hGS := hk1 _ _ _ (by decide) hO.grid
  have hFs := hF0.far (p := ⟨D, 0, none⟩) (hF0.ne_type hDa (by decide)) (.slice A2 (g.1.length + 1) c2)
  have hos := own_far hoa hDa (by decide) 0 (.slice A2 (g.1.length + 1) c2)
  have hul : us.length = g.1.length := by rw [hO.flds.len, List.length_map]
  obtain ⟨A, e1, -⟩ := hO.row ht
  refine ⟨hK1.trans (Kf.set_ hDa hB (by decide) (by decide) 0 _), _, GS, us2, hDs, fun w' k => ⟨us ++ [.slice (some ⟨w.heap.size, 0, none⟩) l l], ?_⟩, hGS.far (p := ⟨D, 0, none⟩) (hGS.ne_type hDa (by decide)) _, fun w' k => (hcr.keep (fun b cs hb => k b _ cs rfl hb)).gd, ⟨A, e1⟩, hO.ge, hB, hO.few⟩
  refine ns_of_own (base := base) (w := w') ?_ ?_
  · show World.ownsRow _ base 62 4 _ (g.1 ++ [((o.t, o.l, o.m), List.replicate o.l.toNat 0)]).length _
    rw [List.length_append, List.length_singleton]
    show World.ownsRow _ base 62 4 _ (g.1.length + 1) (nvs (g.1 ++ [((o.t, o.l, o.m), List.replicate o.l.toNat 0)]) (us ++ [.slice (some ⟨w.heap.size, 0, none⟩) l l]))
    rw [nvs_app _ _ _ _ hul, hl]
    exact own_keep hos (fun b cs hb => k b _ cs (.inl rfl) hb)
  · show Gd .u64 _ _ ((g.1 ++ [((o.t, o.l, o.m), List.replicate o.l.toNat 0)]).map (fun n : Nd => n.2))
    rw [List.map_append]
    refine ⟨by simp [hul], fun j u xs h1 h2 => ?_⟩
    rcases Nat.lt_or_ge j us.length with q | q
    · rw [List.getElem?_append_left q] at h1
      rw [List.getElem?_append_left (by rw [List.length_map]; omega)] at h2
      exact (hcf.keep (fun b cs hb => k b _ cs (.inr rfl) hb)).gd.2 j u xs h1 h2
    · rw [List.getElem?_append_right q] at h1
      rw [List.getElem?_append_right (by rw [List.length_map]; omega)] at h2
      have hj : j - us.length = 0 := by
        rcases Nat.eq_zero_or_pos (j - us.length) with q2 | q2
        · exact q2
        · rw [List.getElem?_eq_none (by rw [List.length_singleton]; exact q2)] at h1; cases h1
      rw [hj] at h1
      rw [List.length_map, show j - g.1.length = 0 from by omega] at h2
      simp only [List.getElem?_cons_zero, Option.some.injEq, List.map_cons, List.map_nil] at h1 h2
      subst h1
      subst h2
      rw [hl, Int.toNat_natCast]
      refine ⟨some ⟨w.heap.size, 0, none⟩, l, by rw [List.length_replicate], by rw [List.length_replicate]; exact Nat.le_refl _, by unfold maxLen; omega, fun q => (by cases q), rv_of_blk (k _ _ _ (.inr rfl) hFs) (fun i v hi => ?_)⟩
      rw [List.map_replicate] at hi
      rw [List.getElem?_toArray]
      exact hi
theorem le_aa {base : Nat} {w : World} (h : base ≤ w.heap.size) (a b : Obj) : base ≤ (((w.alloc a).alloc b).drew).heap.size := Nat.le_trans h ((((Up.refl w).alloc a).alloc b).drew).size
set_option maxHeartbeats 2000000 in
theorem alloc_st (base D : Nat) (g : Gr) (th : Int) (o : Op) (s : Kn) (w : World) (hS : St base D w g th o s) (hb0 : base ≤ w.heap.size) (ht : isTh g th) (l : Nat) (hl : o.l = l) (hl16 : l ≤ 16) (hn : g.1.length ≤ 1048576) (hr : (rowOf g th).length < 16) :
    Calls Try.prog 62 #[.pointer (some ⟨D, 0, none⟩)] w (Lp base D (pushG (allocN g o) th (g.1.length + 1)) th o s w) := by
  obtain ⟨vn, vs, us, us2, BF, GS, BS, hD, hO, hB⟩ := hS
  obtain ⟨A1, c1, rfl⟩ := own_slice hO.nodes
  have hmk := fun w => make_words l hl16 w
  have HO := Lib.hid hO
  have HDD := Lib.hid hD
  have HT := Lib.hid ht
  have HMD : Hid (∀ w3, Md base D w3 (allocN g o) th o s → Calls Try.prog 82 #[.pointer (some ⟨D, 0, none⟩), .int .i64 ((g.1.length : Int) + 1)] w3 (Lp base D (pushG (allocN g o) th (g.1.length + 1)) th o s w3)) := Lib.hid (fun w3 h3 => next_md base D (allocN g o) th o s _ w3 h3 ht hr)
  have D0 := hD.drew
  have D1 : Blk w D 70 #[.slice A1 g.1.length c1, vs, .int .i64 th, .int .i64 o.kd, .int .i64 o.h, .int .i64 o.i, .int .i64 o.k, .int .u64 o.v, .int .i64 o.t, .int .i64 (l : Int), .int .u64 o.m, .int .i64 s.h, .int .i64 s.k, .int .i64 s.e, .int .u64 s.v, .bool s.y] := by
    have := hD
    unfold dcs at this
    rw [hl] at this
    exact this
  have D3 := fun a b => Blk.drew ((D1.alloc a).alloc b)
  have UW := (Up.refl w).drew
  have U0 := Up.refl w.drew
  have HOn : Hid (∀ a b, (((w.alloc a).alloc b).drew).ownsRow base 62 4 (.slice A1 g.1.length c1) g.1.length (nvs g.1 us)) := Lib.hid (fun a b => own_up hO.nodes (((Up.refl w).alloc a).alloc b).drew)
  have hcD := D1.cell
  have hlD := D1.lt
  have hfD := D1.frozen
  clear hO hD hr
  generalize hn0 : g.1.length = n at *
  have HN := Lib.hid hn0
  clear hn0
  go_enter Try.func62, Try.ntmps62
  go_wp2_with (fail)
  have DG : Hid (∀ (a b : Obj) (wa : World), (((w.alloc a).alloc b).drew).grownBy wa (Value.slice A1 n c1).ownBlock → Blk wa D 70 #[.slice A1 n c1, vs, .int .i64 th, .int .i64 o.kd, .int .i64 o.h, .int .i64 o.i, .int .i64 o.k, .int .u64 o.v, .int .i64 o.t, .int .i64 (l : Int), .int .u64 o.m, .int .i64 s.h, .int .i64 s.k, .int .i64 s.e, .int .u64 s.v, .bool s.y]) := Lib.hid (fun a b wa h => Blk.grown (D3 a b) h (own_row_ne (HOn.out a b) (D3 a b) (by decide)))
  go_region_law (refine step_node (W0 := w) (by rfl) _ _ (by rfl) base n (.slice A1 n c1) (nvs g.1 us) (by rfl) (HOn.out _ _) (w.heap.size + 1) 1 (.int .i64 o.t) (.int .i64 l) (.int .u64 o.m) (.slice (some ⟨w.heap.size, 0, none⟩) l l) (by rfl) (Blk.drew (Blk.new' _ (by simp) _ _)) (by intro z hz; simp only [List.mem_cons, List.not_mem_nil, or_false] at hz; rcases hz with rfl | rfl | rfl | rfl <;> rfl) hn (le_aa hb0 _ _) ?_; intro A2 c2 wa hoa hga; have DA := DG.out _ _ wa hga; have DAc := DA.cell; have DAf := DA.frozen; have DAl := DA.lt)
  all_goals
    obtain ⟨k1, k2⟩ := alloc_md HN.out hl HDD.out HO.out hB HT.out hb0 hl16 _ hoa (by rw [List.toArray_replicate]; exact hga)
    have hS3 := HMD.out _ k2
    have HS3 := Lib.hid hS3
    have K1 := Lib.hid k1
    obtain ⟨vn3, GS3, us23, hD3, -⟩ := k2
    have hD4 := (DA.set_ 0 (.slice A2 (n + 1) c2))
    have hcE := hD4.cell
    have hlE := hD4.lt
    clear hoa hga DA DAc DAf DAl hS3 k1 hD3 hD4
    generalize wa.setCell ⟨D, 0, none⟩ (.slice A2 (n + 1) c2) = w3 at *
    go_wp2_with (fail)
    refine HS3.out.mono ?_
    rintro e w4 ⟨rfl, h1, h2⟩
    go_wp2
    go_ret
    exact ⟨rfl, K1.out.trans h1, h2⟩
end Go.Proofs.Ytlocllcijncllaa
