/- The document's copied of graphs (dovecoteref15.copied): contract. -/
import Derived.Test.YtlocllcijncllaaRe
namespace Go.Proofs.Ytlocllcijncllaa
open Go.Joins Go.ChangeShapes Go.WideShapes Go.ChangeAt Go.RowKit Go.Deep Go.Shelf Go.Maps
set_option linter.unusedVariables false
set_option linter.unusedSimpArgs false

theorem el_row : El 23 47 1 24 := ⟨by
  obtain ⟨i0, h1, h2, h3, h4⟩ := info_parts (P := Try.prog) (e := 47) (z := .slice none 0 0) (size := 1) (bytes := 24) (by kernel_rfl)
  exact ⟨i0, _, h1, h2, h3, h4, rfl⟩, Try.underlying23, by decide, by decide⟩
/-- Rows of the call's own. -/
def OwR (base : Nat) (w : World) (us : List Value) (L : List (List Int)) : Prop := us.length = L.length ∧ ∀ (j : Nat) (u : Value) (xs : List Int), us[j]? = some u → L[j]? = some xs → w.ownsRow base 3 1 u xs.length (xs.map (Value.int .i64))
theorem sl_own {k : IntKind} {w : World} {n₀ n : Nat} {e : TypeId} {u : Value} {xs : List Int} (h : w.ownsRow n₀ e 1 u n (xs.map (Value.int k))) (hl : xs.length = n) : Sl k w u xs := by
  obtain ⟨A, c, rfl⟩ := own_slice h
  obtain ⟨_, q1, q2, q3, q4⟩ := rv_of_own h (by simp [hl])
  exact ⟨A, c, by rw [hl], by omega, q2, q3, q4⟩
section
variable {base : Nat} {w w' : World} {us : List Value} {L : List (List Int)}
theorem OwR.keep (h : OwR base w us L) (hk : ∀ b cs, Blk w b 3 cs → Blk w' b 3 cs) : OwR base w' us L := ⟨h.1, fun j u xs h1 h2 => own_keep (h.2 j u xs h1 h2) hk⟩
theorem OwR.up (h : OwR base w us L) (k : Up w w') : OwR base w' us L := h.keep fun b cs hb => hb.up k
theorem OwR.gd (h : OwR base w us L) : Gd .i64 w us L := ⟨h.1, fun j u xs h1 h2 => sl_own (h.2 j u xs h1 h2) rfl⟩
theorem OwR.nil (base : Nat) (w : World) : OwR base w [] [] := ⟨rfl, fun j u xs h => by simp at h⟩
theorem OwR.snoc {u : Value} {xs : List Int} (h : OwR base w us L) (hu : w.ownsRow base 3 1 u xs.length (xs.map (Value.int .i64))) : OwR base w (us ++ [u]) (L ++ [xs]) := by
  refine ⟨by simp [h.1], fun j v ys h1 h2 => ?_⟩
  rcases Nat.lt_or_ge j us.length with q | q
  · rw [List.getElem?_append_left q] at h1
    rw [List.getElem?_append_left (by rw [← h.1]; exact q)] at h2
    exact h.2 j v ys h1 h2
  · rw [List.getElem?_append_right q] at h1
    rw [List.getElem?_append_right (by rw [← h.1]; exact q)] at h2
    have hj : j - us.length = 0 := by
      rcases Nat.eq_zero_or_pos (j - us.length) with q2 | q2
      · exact q2
      · rw [List.getElem?_eq_none (by rw [List.length_singleton]; exact q2)] at h1; cases h1
    rw [hj] at h1
    rw [← h.1, hj] at h2
    simp at h1 h2
    subst h1
    subst h2
    exact hu
theorem OwR.set_ {j : Nat} {u : Value} {xs : List Int} (h : OwR base w us L) (hu : w.ownsRow base 3 1 u xs.length (xs.map (Value.int .i64))) : OwR base w (us.set j u) (L.set j xs) := by
  refine ⟨by simp [h.1], fun i v ys h1 h2 => ?_⟩
  by_cases q : j = i
  · subst q
    have hj : j < us.length := by
      rcases Nat.lt_or_ge j us.length with q | q
      · exact q
      · rw [List.getElem?_eq_none (by simpa using q)] at h1; cases h1
    rw [List.getElem?_set_self hj] at h1
    rw [List.getElem?_set_self (by rw [← h.1]; exact hj)] at h2
    cases h1
    cases h2
    exact hu
  · rw [List.getElem?_set_ne q] at h1 h2
    exact h.2 i v ys h1 h2
end
/-- A clone onto an empty row of new memory. -/
theorem step_clone {W0 w : World} {ops : Array Oper} {o : Oper} {a : Act} {K : Act → World → Prop} {Q : Exit → Act → World → Prop} {F : Prop} (hgd : o.guard = none) (s x : Operand) {T e : TypeId} {size bytes : Nat} (E : El T e size bytes) (ho : o.op = .call { callee := .builtin .append, args := #[s, x], argTypes := #[T, T] })
    (g : Nat) (hs : a.eval s = .slice (some ⟨g, 0, none⟩) 0 0) (hb : Blk w g e #[]) (hU : Up W0 w) (hg : W0.heap.size ≤ g) (A : Option Addr) (m c : Nat) (ys : List Value) (hx : a.eval x = .slice A m c) (hl : ys.length = m * size) (hy : RV w A ys) (h1 : ∀ u ∈ ys, u.oneCell' = true) (hm : m ≤ 1099511627776)
    (h : ∀ A' c' w', w'.ownsRow W0.heap.size e size (.slice A' m c') m ys → Up W0 w' → K (a.put o.dst (.slice A' m c')) w') : if Region.wanted o (yielded ops a.tmps) = true then Oper.wp Try.prog o a w K Q else F := by
  obtain ⟨v', w', hr, h2, h3, -⟩ := run_any E o.type W0.heap.size 0 (.slice (some ⟨g, 0, none⟩) 0 0) [] (own_empty hb hg) A m c ys hl hy h1 (by omega) hU.size
  have hw : Region.wanted o (yielded ops a.tmps) = true := by simp [Region.wanted, hgd]
  rw [if_pos hw]
  rw [Nat.zero_add, List.nil_append] at h2
  obtain ⟨A', c', rfl⟩ := own_slice h2
  exact Lib.wp_append_run w s x T T ho _ _ hs hx _ w' hr (h _ _ w' h2 (up_own hU (own_empty (size := size) hb hg) h3))
/-- An append onto a row of the call's own. -/
theorem step_own {w : World} {ops : Array Oper} {o : Oper} {a : Act} {K : Act → World → Prop} {Q : Exit → Act → World → Prop} {F : Prop} (hgd : o.guard = none) (s x : Operand) {T e : TypeId} {size bytes : Nat} (E : El T e size bytes) (ho : o.op = .call { callee := .builtin .append, args := #[s, x], argTypes := #[T, T] })
    (base n : Nat) (v : Value) (xs : List Value) (hs : a.eval s = v) (hx : w.ownsRow base e size v n xs) (A : Option Addr) (m c : Nat) (ys : List Value) (hxx : a.eval x = .slice A m c) (hl : ys.length = m * size) (hy : RV w A ys) (h1 : ∀ u ∈ ys, u.oneCell' = true) (hb : n + m ≤ 1099511627776) (hbase : base ≤ w.heap.size)
    (h : ∀ A' c' w', w'.ownsRow base e size (.slice A' (n + m) c') (n + m) (xs ++ ys) → w.grownBy w' v.ownBlock → K (a.put o.dst (.slice A' (n + m) c')) w') : if Region.wanted o (yielded ops a.tmps) = true then Oper.wp Try.prog o a w K Q else F := by
  obtain ⟨v', w', hr, h2, h3, -⟩ := run_any E o.type base n v xs hx A m c ys hl hy h1 hb hbase
  have hw : Region.wanted o (yielded ops a.tmps) = true := by simp [Region.wanted, hgd]
  rw [if_pos hw]
  obtain ⟨A', c', rfl⟩ := own_slice h2
  exact Lib.wp_append_run w s x T T ho _ _ hs hxx _ w' hr (h _ _ w' h2 h3)
/-- Where a copy is under way. -/
structure CpI (w : World) (va vb vn : Value) (g : Gr) (us : List Value) (OB x : Nat) (us2 : List Value) (vs : Value) (wr : World) : Prop where
  bG : Blk wr w.heap.size 25 #[va, vb]
  bR : Blk wr (w.heap.size + 1) 25 #[.slice none 0 0, .slice none 0 0]
  bO : Blk wr OB 25 #[vn, vs]
  ge : w.heap.size + 1 < OB
  own : wr.ownsRow w.heap.size 47 1 vs x us2
  rows : OwR w.heap.size wr us2 (g.2.take x)
  nodes : wr.ownsRow w.heap.size 62 4 vn g.1.length (nvs g.1 us)
  up : Up w wr
theorem CpI.upw {w wr wc : World} {va vb vn vs : Value} {g : Gr} {us us2 : List Value} {OB x : Nat} (h : CpI w va vb vn g us OB x us2 vs wr) (k : Up wr wc) : CpI w va vb vn g us OB x us2 vs wc :=
  ⟨h.bG.up k, h.bR.up k, h.bO.up k, h.ge, own_up h.own k, h.rows.up k, own_up h.nodes k, h.up.trans k⟩
theorem CpI.fin {w wr wc wb : World} {va vb vn vs v2 u : Value} {g : Gr} {us us2 : List Value} {OB x : Nat} (h : CpI w va vb vn g us OB x us2 vs wr) (k : Up wr wc) (hx : x < g.2.length) (hu : wc.ownsRow wr.heap.size 3 1 u (g.2.getD x []).length ((g.2.getD x []).map (Value.int .i64)))
    (hb : wb.ownsRow w.heap.size 47 1 v2 (x + 1) (us2 ++ [u])) (hg : wc.grownBy wb vs.ownBlock) : CpI w va vb vn g us OB (x + 1) (us2 ++ [u]) v2 (wb.setCell ⟨OB, 1, none⟩ v2) ∧ Blk wb OB 25 #[vn, vs] := by
  have hc := h.upw k
  have q1 := hc.bG.grown hg (own_row_ne hc.own hc.bG (by decide))
  have q2 := hc.bR.grown hg (own_row_ne hc.own hc.bR (by decide))
  have q3 := hc.bO.grown hg (own_row_ne hc.own hc.bO (by decide))
  have hge := h.ge
  have q4 : Blk (wb.setCell ⟨OB, 1, none⟩ v2) OB 25 #[vn, v2] := by simpa using q3.set_ 1 v2
  have hk : ∀ b t cs, t ≠ 47 → t ≠ 25 → Blk wc b t cs → Blk (wb.setCell ⟨OB, 1, none⟩ v2) b t cs := fun b t cs h1 h2 hb => by
    have hb2 := hb.grown hg (own_row_ne hc.own hb (fun e => h1 e.symm))
    exact hb2.far (p := ⟨OB, 1, none⟩) (hb2.ne_type q3 h2) v2
  have hrow : g.2.take (x + 1) = g.2.take x ++ [g.2.getD x []] := by
    rw [List.take_succ_eq_append_getElem hx]
    simp [List.getD, List.getElem?_eq_getElem hx]
  refine ⟨⟨q1.far (p := ⟨OB, 1, none⟩) (by show w.heap.size ≠ OB; omega) _, q2.far (p := ⟨OB, 1, none⟩) (by show w.heap.size + 1 ≠ OB; omega) _, q4, hge, own_far hb q3 (by decide) 1 v2, ?_, own_keep hc.nodes (fun b cs hb => hk b _ cs (by decide) (by decide) hb), (up_own hc.up hc.own hg).setCell (by show w.heap.size ≤ OB; omega) _⟩, q3⟩
  rw [hrow]
  exact (hc.rows.snoc (own_le hu h.up.size)).keep (fun b cs hb => hk b _ cs (by decide) (by decide) hb)
/-- A graph once more: its nodes and its rows are a call's own, the nodes' words are shared. -/
structure OwnC (base : Nat) (w : World) (vn vs : Value) (g : Gr) (us us2 : List Value) : Prop where
  nodes : w.ownsRow base 62 4 vn g.1.length (nvs g.1 us)
  own : w.ownsRow base 47 1 vs g.2.length us2
  rows : OwR base w us2 g.2
theorem OwnC.up {base : Nat} {w w' : World} {vn vs : Value} {g : Gr} {us us2 : List Value} (h : OwnC base w vn vs g us us2) (k : Up w w') : OwnC base w' vn vs g us us2 := ⟨own_up h.nodes k, own_up h.own k, h.rows.up k⟩
theorem OwnC.far {base b : Nat} {w : World} {vn vs : Value} {g : Gr} {us us2 : List Value} {t : TypeId} {cs : Array Value} (h : OwnC base w vn vs g us us2) (hb : Blk w b t cs) (h1 : 62 ≠ t) (h3 : 47 ≠ t) (h4 : 3 ≠ t) (i : Nat) (u : Value) : OwnC base (w.setCell ⟨b, i, none⟩ u) vn vs g us us2 :=
  ⟨own_far h.nodes hb h1 i u, own_far h.own hb h3 i u, h.rows.keep fun b' cs' hb' => hb'.far (p := ⟨b, i, none⟩) (hb'.ne_type hb h4) u⟩
theorem OwnC.gr {base : Nat} {w : World} {vn vs : Value} {g : Gr} {us us2 : List Value} (h : OwnC base w vn vs g us us2) (hn : Gd .u64 w us (g.1.map (·.2))) : GrV w (.agg #[vn, vs]) g := by
  refine ⟨_, _, rfl, ⟨us, ns_of_own h.nodes hn⟩, us2, ?_⟩
  obtain ⟨A, c, rfl⟩ := own_slice h.own
  obtain ⟨_, q1, q2, q3, q4⟩ := rv_of_own h.own (by rw [h.rows.1]; omega)
  exact ⟨A, c, rfl, q1, q2, q3, q4, h.rows.gd⟩
def CcPost (g : Gr) (us : List Value) (w : World) (e : Ending) (w' : World) : Prop := ∃ vn vs us2, e = .returned (.agg #[vn, vs]) ∧ OwnC w.heap.size w' vn vs g us us2 ∧ Up w w'
def CpR (w : World) (va vb vn : Value) (g : Gr) (us : List Value) (OB : Nat) (i : Value) (wr : World) : Prop := ∃ x us2 vs, x ≤ g.2.length ∧ i = .int .i64 (x : Nat) ∧ CpI w va vb vn g us OB x us2 vs wr
set_option maxRecDepth 100000 in
set_option maxHeartbeats 4000000 in
theorem rcopied_any (va vb : Value) (g : Gr) (us : List Value) (w : World) (hns : NsW w va us g.1) (hrw : Rw .i64 w vb g.2) (hF : FitG g) : Calls Try.prog 34 #[.agg #[va, vb]] w (CcPost g us w) := by
  have HRW := Lib.hid hrw
  have HF := Lib.hid hF
  obtain ⟨A, c, rfl, hc1, hc2, hA, hrv, hgd⟩ := hns
  obtain ⟨B, d, rfl, hm⟩ := hrw.slice
  unfold maxLen at hm hc2
  have hul : us.length = g.1.length := by rw [hgd.1, List.length_map]
  have k2 := (((Up.refl w).alloc (.cells #[.slice A g.1.length c, .slice B g.2.length d] 25)).alloc (.cells #[.slice none 0 0, .slice none 0 0] 25)).alloc (.cells #[] 62)
  have hE : Blk (((w.alloc (.cells #[.slice A g.1.length c, .slice B g.2.length d] 25)).alloc (.cells #[.slice none 0 0, .slice none 0 0] 25)).alloc (.cells #[] 62)) (w.heap.size + 1 + 1) 62 #[] := Blk.new' _ (by simp) _ _
  obtain ⟨v1, w1, hrun, hown, hg1, -⟩ := run_any el_node (w := (((w.alloc (.cells #[.slice A g.1.length c, .slice B g.2.length d] 25)).alloc (.cells #[.slice none 0 0, .slice none 0 0] 25)).alloc (.cells #[] 62))) 22 w.heap.size 0 (.slice (some ⟨w.heap.size + 1 + 1, 0, none⟩) 0 0) [] (own_empty hE (by omega)) A g.1.length c (nvs g.1 us) (nvs_len _ _ hul) (hrv.up k2) (nvs_one _ _ hgd.slices) (by have := hF.n; omega) (by simp; omega)
  rw [Nat.zero_add, List.nil_append] at hown
  have oE := own_empty (n₀ := w.heap.size) (size := 4) hE (by omega)
  have U1 := up_own k2 oE hg1
  have bG1 := (((Blk.new w 25 #[.slice A g.1.length c, .slice B g.2.length d]).alloc (.cells #[.slice none 0 0, .slice none 0 0] 25)).alloc (.cells #[] 62)).grown hg1 (own_row_ne oE (((Blk.new w 25 #[.slice A g.1.length c, .slice B g.2.length d]).alloc (.cells #[.slice none 0 0, .slice none 0 0] 25)).alloc (.cells #[] 62)) (by decide))
  have bR0 := (Blk.new' (w.alloc (.cells #[.slice A g.1.length c, .slice B g.2.length d] 25)) (g := w.heap.size + 1) (by simp) 25 #[.slice none 0 0, .slice none 0 0]).alloc (.cells #[] 62)
  have bR1 := bR0.grown hg1 (own_row_ne oE bR0 (by decide))
  obtain ⟨An, cn, rfl⟩ := own_slice hown
  have hsz1 := hg1.size
  have hst : CpI w (.slice A g.1.length c) (.slice B g.2.length d) (.slice An g.1.length cn) g us w1.heap.size 0 [] (.slice none 0 0) (w1.alloc (.cells #[.slice An g.1.length cn, .slice none 0 0] 25)) :=
    ⟨bG1.alloc _, bR1.alloc _, Blk.new w1 _ _, by simp at hsz1; omega, World.ownsRow_nil _ _ _ _, by rw [List.take_zero]; exact OwR.nil _ _, own_up hown ((Up.refl w1).alloc _), U1.alloc _⟩
  have HST := Lib.hid hst
  clear hst bG1 bR0 bR1 hown hg1 oE U1 hsz1 hE k2 hgd hrv hul hrw hF hA hc1
  go_enter Try.func34, Try.ntmps34
  go_wp2_with (at_builtin; refine Lib.wpList_append_run _ rfl _ _ _ _ rfl _ _ rfl rfl _ _ hrun ?_)
  have HSF := Lib.hid HF.out.s
  clear hrun
  generalize (w1.alloc (.cells #[.slice An g.1.length cn, .slice none 0 0] 25)) = w2 at *
  go_loopw [4] (fun i wr => CpR w (.slice A g.1.length c) (.slice B g.2.length d) (.slice An g.1.length cn) g us w1.heap.size i wr) (fun i _ => g.2.length - (intOf i).toNat)
  case atStart => exact ⟨0, [], _, Nat.zero_le _, rfl, HST.out⟩
  case round =>
    rename World => wr
    obtain ⟨x, us2, vs, hx, rfl, hI⟩ := hrel
    obtain ⟨AS, cS, rfl⟩ := own_slice hI.own
    have HI := Lib.hid hI
    have qG := hI.bG.cell
    have lG := hI.bG.lt
    have qO := hI.bO.cell
    have lO := hI.bO.lt
    by_cases hlt : x < g.2.length
    · obtain ⟨p, u, rfl, hcu, hsu⟩ := (HRW.out.up hI.up).at_ hlt
      obtain ⟨Au, cu, rfl⟩ := hsu.slice
      obtain ⟨-, hrv, -, -, -⟩ := hsu.rv
      have hlp := lt_of_cell hcu
      rw [block_of_add] at hlp
      have HRV := Lib.hid (fun W (k : Up wr W) => hrv.up k)
      have hm1 : (g.2.getD x []).length ≤ 1099511627776 := by
        have h1 := flat_one g.2 hlt
        have h2 := flat_le g.2 (x + 1)
        have h3 := HF.out.h
        omega
      have hxs := HSF.out
      have hws := hI.up.size
      obtain ⟨m, hmm⟩ : ∃ m, (g.2.getD x []).length = m := ⟨_, rfl⟩
      obtain ⟨row, hrow⟩ : ∃ row, g.2.getD x [] = row := ⟨_, rfl⟩
      have HFN := Lib.hid (fun wc wb u v2 (k : Up wr wc) h1 h2 h3 => hI.fin (wc := wc) (wb := wb) (u := u) (v2 := v2) k hlt h1 h2 h3)
      have HFX := Lib.hid hI.own
      rw [hrow] at hrv HRV HFN hmm hcu hm1
      rw [hmm] at hcu HFN hm1
      have HMM := Lib.hid hmm
      have hcu1 := fun o1 => Up.cell ((Up.refl wr).alloc o1) hcu
      clear hI hsu hrv hmm hrow
      go_wp2_with (fail)
      go_region_law (first
        | (refine step_clone (W0 := wr) (by rfl) _ _ el_int (by rfl) wr.heap.size (by rfl) (by first | exact Blk.drew (Blk.new wr _ _) | exact Blk.new wr.drew _ _) (by first | exact ((Up.refl wr).alloc _).drew | exact (Up.refl wr).drew.alloc _) (Nat.le_refl _) Au m cu (row.map (Value.int .i64)) (by rfl) (by rw [List.length_map, HMM.out]; omega) (HRV.out _ (by first | exact ((Up.refl wr).alloc _).drew | exact (Up.refl wr).drew.alloc _)) (one_ints _ _) hm1 ?_; intro A1 c1 wa hoa hUa; have bGa := HI.out.bG.up hUa; have bOa := HI.out.bO.up hUa; have qGa := bGa.cell; have lGa := bGa.lt; have qOa := bOa.cell; have lOa := bOa.lt; have hca := hUa.cell hcu; have hca1 := fun o1 => Up.cell (hUa.alloc o1) hcu)
        | (refine step_own (by rfl) _ _ el_row (by rfl) w.heap.size x (.slice AS x cS) us2 (by rfl) (own_up HFX.out (hUa.alloc _)) (some ⟨wa.heap.size, 0, none⟩) 1 1 [.slice A1 m c1] (by rfl) (by simp) (rv_of_blk (Blk.new wa _ _) (fun j v hj => by simpa using hj)) (fun u hu => by rw [List.mem_singleton] at hu; subst hu; rfl) (by omega) (Nat.le_trans hws (hUa.alloc _).size) ?_; intro A2 c2 wb hob hgb; obtain ⟨hI2, hOb⟩ := HFN.out _ _ _ _ (hUa.alloc _) (own_up hoa ((Up.refl wa).alloc _)) hob hgb; have HI2 := Lib.hid hI2; have qOb := hOb.cell; have fOb := hOb.frozen; have lOb := hOb.lt; clear hI2 hOb hob hgb))
      all_goals
        go_wp2
        exact ⟨⟨x + 1, _, _, by omega, by go_num, HI2.out⟩, by simp [intOf]; omega⟩
    · obtain rfl : x = g.2.length := by omega
      have hR := hI.bR
      have qR := hR.cell
      have fR := hR.frozen
      have lR := hR.lt
      have hrows := hI.rows
      rw [List.take_of_length_le (Nat.le_refl _)] at hrows
      have hO : OwnC w.heap.size wr (.slice An g.1.length cn) (.slice AS g.2.length cS) g us us2 := ⟨hI.nodes, hI.own, hrows⟩
      have HO := Lib.hid hO
      have HU := Lib.hid hI.up
      have HR := Lib.hid hR
      clear hI hO hrows hR
      go_wp2
      have HBX : Blk ((wr.setCell ⟨w.heap.size + 1, 0, none⟩ (.slice An g.1.length cn)).setCell ⟨w.heap.size + 1, 1, none⟩ (.slice AS g.2.length cS)) (w.heap.size + 1) 25 #[.slice An g.1.length cn, .slice AS g.2.length cS] := by
        have := (HR.out.set_ 0 (Value.slice An g.1.length cn)).set_ 1 (Value.slice AS g.2.length cS)
        simpa using this
      refine bodyPost_ret (results_cell_row rfl _ _ (w.heap.size + 1) 25 _ _ _ rfl HBX Try.underlying25 rfl (by kernel_rfl)) rfl ?_
      exact ⟨_, _, us2, rfl, (HO.out.far HR.out (by decide) (by decide) (by decide) 0 _).far (HR.out.set_ 0 _) (by decide) (by decide) (by decide) 1 _, (HU.out.setCell (by simp) _).setCell (by simp) _⟩
/-! The document's push, set and no of graphs (dovecoteref15): contracts. -/

theorem ret_push {fn : Func} {p u : Tmp} (h : fn.results = #[.cell p 25, .tmp u]) (tmps : Array Value) (w : World) (G : Nat) (a b : Value)
    (hp : tmps.getD p undef = .pointer (some ⟨G, 0, none⟩)) (hG : Blk w G 25 #[a, b]) :
    (results fn tmps).run Try.prog w = .ok (.tuple #[.agg #[a, b], tmps.getD u undef]) w := by
  have hp' : tmps[p]?.getD undef = .pointer (some ⟨G, 0, none⟩) := by simpa using hp
  simp [results, h, hp', asAddr, run_loadVar_row w G 25 25 _ _ _ hG Try.underlying25 rfl (by kernel_rfl)]
section
variable {base : Nat} {w : World} {vn vs : Value} {g : Gr} {us us2 : List Value}
theorem OwnC.le {b0 : Nat} (h : OwnC base w vn vs g us us2) (k : b0 ≤ base) : OwnC b0 w vn vs g us us2 := ⟨own_le h.nodes k, own_le h.own k, h.rows.1, fun j u xs h1 h2 => own_le (h.rows.2 j u xs h1 h2) k⟩
theorem OwnC.vsf (h : OwnC base w vn vs g us us2) (hs : 0 < g.2.length) : ∃ gS cS cur, vs = .slice (some ⟨gS, 0, none⟩) g.2.length cS ∧ base ≤ gS ∧ Blk w gS 47 cur ∧ g.2.length ≤ cur.size := by
  rcases h.own.2 with ⟨_, q⟩ | ⟨gS, cS, cur, q, q1, q2, q3, _, q4, _⟩
  · omega
  · exact ⟨gS, cS, cur, q, q1, q2, by omega⟩
theorem OwnC.vnf (h : OwnC base w vn vs g us us2) (hs : 0 < g.1.length) : ∃ gN cN cur, vn = .slice (some ⟨gN, 0, none⟩) g.1.length cN ∧ base ≤ gN ∧ Blk w gN 62 cur ∧ g.1.length * 4 ≤ cur.size := by
  rcases h.nodes.2 with ⟨_, q⟩ | ⟨gS, cS, cur, q, q1, q2, q3, _, q4, _⟩
  · omega
  · exact ⟨gS, cS, cur, q, q1, q2, by omega⟩
/-- A thread's row is another one. -/
theorem OwnC.setRow {gS cS j : Nat} {v2 : Value} {ys : List Int} (h : OwnC base w vn (.slice (some ⟨gS, 0, none⟩) g.2.length cS) g us us2) (hv : w.ownsRow base 3 1 v2 ys.length (ys.map (Value.int .i64))) {cur : Array Value} (hb : Blk w gS 47 cur) :
    OwnC base (w.setCell ⟨gS, j, none⟩ v2) vn (.slice (some ⟨gS, 0, none⟩) g.2.length cS) (g.1, g.2.set j ys) us (us2.set j v2) := by
  refine ⟨own_far h.nodes hb (by decide) j v2, ?_, ?_⟩
  · show World.ownsRow _ base 47 1 _ (g.2.set j ys).length _
    rw [List.length_set]
    exact (World.ownsRow.stored h.own j v2).1
  · exact (h.rows.keep fun b' cs' hb' => hb'.far (p := ⟨gS, j, none⟩) (hb'.ne_type hb (by decide)) v2).set_ (own_far hv hb (by decide) j v2)
end
theorem GrV.parts {w : World} {A B : Option Addr} {n c s d : Nat} {g : Gr} (h : GrV w (.agg #[.slice A n c, .slice B s d]) g) : ∃ us, NsW w (.slice A n c) us g.1 ∧ Rw .i64 w (.slice B s d) g.2 := by
  obtain ⟨a, b, e, ⟨us, h1⟩, h2⟩ := h
  simp only [Value.agg.injEq, Array.mk.injEq, List.cons.injEq, and_true] at e
  obtain ⟨rfl, rfl⟩ := e
  exact ⟨us, h1, h2⟩
theorem NsW.gd {w : World} {v : Value} {us : List Value} {ns : List Nd} (h : NsW w v us ns) : Gd .u64 w us (ns.map (·.2)) := by
  obtain ⟨A, c, _, _, _, _, _, h5⟩ := h
  exact h5
/-- What is older is as it was, and so is all else but boxes of graphs and answers. -/
structure Kq (w0 w w' : World) : Prop where
  up : Up w0 w'
  keep : ∀ b t cs, t ≠ 25 → t ≠ 39 → Blk w b t cs → Blk w' b t cs
theorem Kq.of {w0 w w' : World} (h : Up w0 w) (k : Up w w') : Kq w0 w w' := ⟨h.trans k, fun b t cs _ _ hb => hb.up k⟩
theorem Kq.ahead {w0 w w1 w2 : World} (h : Kq w0 w1 w2) (k : Up w w1) : Kq w0 w w2 := ⟨h.up, fun b t cs h1 h2 hb => h.keep b t cs h1 h2 (hb.up k)⟩
/-- A graph that is read so wherever these are kept. -/
def GrR (w0 w : World) (va vb : Value) (us : List Value) (g : Gr) : Prop := ∀ w', Kq w0 w w' → NsW w' va us g.1 ∧ Rw .i64 w' vb g.2
section
variable {w0 w w' : World} {va vb : Value} {us : List Value} {g : Gr}
theorem GrR.upw (h : GrR w0 w va vb us g) (k : Up w w') : GrR w0 w' va vb us g := fun w2 k2 => h w2 (k2.ahead k)
theorem GrR.gr (h : GrR w0 w va vb us g) (k : Kq w0 w w') : GrV w' (.agg #[va, vb]) g := ⟨va, vb, rfl, ⟨us, (h w' k).1⟩, (h w' k).2⟩
theorem GrR.of {A B : Option Addr} {n c s d : Nat} (hg : GrV w0 (.agg #[.slice A n c, .slice B s d]) g) : ∃ us, ∀ w, GrR w0 w (.slice A n c) (.slice B s d) us g := by
  obtain ⟨us, h1, h2⟩ := hg.parts
  exact ⟨us, fun w w' k => ⟨h1.up k.up, h2.up k.up⟩⟩
theorem OwnC.grR {base : Nat} {vn vs : Value} {us2 : List Value} (h : OwnC base w vn vs g us us2) (hn : ∀ w', Kq w0 w w' → Gd .u64 w' us (g.1.map (·.2))) : GrR w0 w vn vs us g := fun w' k => by
  have h2 : OwnC base w' vn vs g us us2 := ⟨own_keep h.nodes (fun b cs hb => k.keep b _ cs (by decide) (by decide) hb), own_keep h.own (fun b cs hb => k.keep b _ cs (by decide) (by decide) hb), h.rows.keep (fun b cs hb => k.keep b _ cs (by decide) (by decide) hb)⟩
  refine ⟨ns_of_own h2.nodes (hn w' k), us2, ?_⟩
  obtain ⟨A, c, rfl⟩ := own_slice h2.own
  obtain ⟨_, q1, q2, q3, q4⟩ := rv_of_own h2.own (by rw [h2.rows.1]; omega)
  exact ⟨A, c, rfl, q1, q2, q3, q4, h2.rows.gd⟩
end
def PuPost (w0 : World) (g g' : Gr) (z : Int) (w : World) (e : Ending) (w' : World) : Prop := ∃ A n c B s d us, e = .returned (.tuple #[.agg #[.slice A n c, .slice B s d], .int .i64 z]) ∧ GrR w0 w' (.slice A n c) (.slice B s d) us (if z = 0 then g' else g) ∧ Up w w'
set_option maxRecDepth 100000 in
set_option maxHeartbeats 4000000 in
theorem rpush_any (A B : Option Addr) (c d n s : Nat) (us : List Value) (g : Gr) (th h : Int) (w0 w : World) (k0 : Up w0 w) (hr : GrR w0 w (.slice A n c) (.slice B s d) us g) (ht : isTh g th) (hF : FitG g) : Calls Try.prog 35 #[.agg #[.slice A n c, .slice B s d], .int .i64 th, .int .i64 h] w (PuPost w0 g (pushG g th h) (rme g th) w) := by
  have hg := hr.gr (Kq.of k0 (Up.refl w))
  obtain ⟨hns, hrw⟩ := hr w (Kq.of k0 (Up.refl w))
  have hn1 : g.1.length = n := by obtain ⟨_, _, e, _⟩ := hns; cases e; rfl
  have hs1 : g.2.length = s := by obtain ⟨_, _, _, e, _⟩ := hrw; cases e; rfl
  subst hn1
  subst hs1
  have m1 : g.1.length ≤ 9223372036854775807 := by have := hF.n; omega
  have m2 : g.2.length ≤ 9223372036854775807 := by have := hF.s; omega
  obtain ⟨j, rfl⟩ : ∃ j : Nat, th = j := ⟨th.toNat, by have := ht.1; omega⟩
  have hj : j < g.2.length := by have := ht.2; omega
  have HRR := Lib.hid hr
  have hgd : ∀ w', Kq w0 w w' → Gd .u64 w' us (g.1.map (·.2)) := fun w' k => (hr w' k).1.gd
  obtain ⟨p, P, q, rfl, hc0, hl0, hsl⟩ := hg.row_at hj
  clear hr
  obtain ⟨-, hrv, -, -, -⟩ := hsl.rv
  have hrx := hsl.max
  unfold maxLen at hrx
  have K0 := Lib.hid k0
  have e0 : rowOf g j = g.2.getD j [] := by unfold rowOf; rw [Int.toNat_natCast]
  by_cases h16 : (rowOf g j).length < 16
  · have er : rme g j = 0 := by unfold rme; rw [if_pos h16]
    rw [er]
    have eP : pushG g j h = (g.1, g.2.set j (rowOf g j ++ [h])) := by unfold pushG; rw [Int.toNat_natCast]
    rw [eP]
    obtain ⟨row, hrow⟩ : ∃ row, rowOf g j = row := ⟨_, rfl⟩
    rw [hrow] at h16 hc0 hsl hrv hrx ⊢
    obtain ⟨ln, hln⟩ : ∃ ln, row.length = ln := ⟨_, rfl⟩
    rw [hln] at h16 hc0 hsl hrx
    have d1 : decide ((ln : Int) ≥ 16) = false := decide_eq_false (by omega)
    obtain ⟨W1, hW1⟩ : ∃ W1, W1 = ((w.alloc (.cells #[.slice A g.1.length c, .slice (some p) g.2.length d] 25)).alloc (.cells #[.slice none 0 0, .slice none 0 0] 25)).alloc (.cells #[] 3) := ⟨_, rfl⟩
    have k1 : Up w W1 := by rw [hW1]; exact (((Up.refl w).alloc _).alloc _).alloc _
    have bE : Blk W1 (w.heap.size + 1 + 1) 3 #[] := by rw [hW1]; exact Blk.new' _ (by simp) _ _
    have bG1 : Blk W1 w.heap.size 25 #[.slice A g.1.length c, .slice (some p) g.2.length d] := by rw [hW1]; exact ((Blk.new w _ _).alloc _).alloc _
    have bR1 : Blk W1 (w.heap.size + 1) 25 #[.slice none 0 0, .slice none 0 0] := by rw [hW1]; exact (Blk.new' _ (by simp) _ _).alloc _
    have oE := own_empty (n₀ := w.heap.size) (size := 1) bE (by omega)
    obtain ⟨v1, wa, hrun1, ho1, hga, -⟩ := run_any el_int (w := W1) 47 w.heap.size 0 _ [] oE P ln q (row.map (Value.int .i64)) (by simp [hln]) (hrv.up k1) (one_ints _ _) (by omega) k1.size
    rw [Nat.zero_add, List.nil_append] at ho1
    have ka := up_own k1 oE hga
    have bGa := bG1.grown hga (own_row_ne oE bG1 (by decide))
    have bRa := bR1.grown hga (own_row_ne oE bR1 (by decide))
    obtain ⟨A1, c1, rfl⟩ := own_slice ho1
    have kb := ka.alloc (.cells #[.int .i64 h] 3)
    have ho1' := own_up ho1 ((Up.refl wa).alloc (.cells #[.int .i64 h] 3))
    obtain ⟨v2, wb, hrun2, ho2, hgb, -⟩ := run_any el_int (w := wa.alloc (.cells #[.int .i64 h] 3)) 47 w.heap.size ln _ _ ho1' (some ⟨wa.heap.size, 0, none⟩) 1 1 [.int .i64 h] rfl (rv_of_blk (Blk.new wa _ _) (fun i u hi => by simpa using hi)) (fun u hu => by rw [List.mem_singleton] at hu; subst hu; rfl) (by omega) kb.size
    have kwb := up_own kb ho1' hgb
    have bGb := (bGa.alloc (.cells #[.int .i64 h] 3)).grown hgb (own_row_ne ho1' (bGa.alloc _) (by decide))
    have bRb := (bRa.alloc (.cells #[.int .i64 h] 3)).grown hgb (own_row_ne ho1' (bRa.alloc _) (by decide))
    obtain ⟨A2, c2, rfl⟩ := own_slice ho2
    have hc2 := fun o1 o2 => Up.cell (((Up.refl w).alloc o1).alloc o2) hc0
    have hc3 := fun o1 o2 o3 => Up.cell ((((Up.refl w).alloc o1).alloc o2).alloc o3) hc0
    have HCC := Lib.hid (rcopied_any (.slice A g.1.length c) (.slice (some p) g.2.length d) g us wb (hns.up kwb) (hrw.up kwb) hF)
    have HO2 := Lib.hid (show wb.ownsRow w.heap.size 3 1 (.slice A2 (ln + 1) c2) (row ++ [h]).length ((row ++ [h]).map (Value.int .i64)) from by rw [List.length_append, hln, List.length_singleton, List.map_append]; exact ho2)
    have HK := Lib.hid kwb
    have HGD := Lib.hid hgd
    have qGb := bGb.cell
    have lGb := bGb.lt
    have hsz := kwb.size
    clear ho1 ho1' ho2 hga hgb oE bE k1 ka kb kwb bG1 bR1 bGa bRa hns hrw hrv hsl hg hgd hF hln hrow e0 er eP
    subst hW1
    go_enter Try.func35, Try.ntmps35
    go_wp2_with (first
      | (with_reducible refine halt_at (o := ⟨some 27, _, _, _, _, _⟩) ?_)
      | (at_builtin; refine Lib.wpList_append_run _ rfl _ _ _ _ rfl _ _ rfl rfl _ _ hrun1 ?_))
    unfold Halt
    refine Lib.wpList_append_run _ rfl _ _ _ _ rfl _ _ rfl rfl _ _ hrun2 ?_
    go_wp2_with (fail)
    refine HCC.out.mono ?_
    rintro e w3 ⟨vn, vs, us2, rfl, hO, hU3⟩
    obtain ⟨gS, cS, cur, rfl, hge, hbS, hszS⟩ := hO.vsf (by omega)
    obtain ⟨An, cn, rfl⟩ := own_slice hO.nodes
    have hO3 := (hO.le hsz).up ((Up.refl w3).alloc (.cells #[.slice An g.1.length cn, .slice (some ⟨gS, 0, none⟩) g.2.length cS] 25))
    have k3 := (HK.out.trans hU3).alloc (.cells #[.slice An g.1.length cn, .slice (some ⟨gS, 0, none⟩) g.2.length cS] 25)
    have bS4 := hbS.alloc (.cells #[.slice An g.1.length cn, .slice (some ⟨gS, 0, none⟩) g.2.length cS] 25)
    have bO4 := Blk.new w3 25 #[.slice An g.1.length cn, .slice (some ⟨gS, 0, none⟩) g.2.length cS]
    have bR4 := (bRb.up hU3).alloc (.cells #[.slice An g.1.length cn, .slice (some ⟨gS, 0, none⟩) g.2.length cS] 25)
    have bO5 := bO4.far (p := ⟨gS, j, none⟩) (bO4.ne_type bS4 (by decide)) (.slice A2 (ln + 1) c2)
    have bR5 := bR4.far (p := ⟨gS, j, none⟩) (bR4.ne_type bS4 (by decide)) (.slice A2 (ln + 1) c2)
    have O5 := hO3.setRow (j := j) (own_up HO2.out (hU3.alloc _)) bS4
    have k5 := k3.setCell (p := ⟨gS, j, none⟩) (by show w.heap.size ≤ gS; omega) (.slice A2 (ln + 1) c2)
    have hcS := (bS4.cell j).trans (Array.getElem?_eq_getElem (by omega))
    have hfS := bS4.frozen
    have hlS := bS4.lt
    have hcO4 := bO4.cell
    have hcO5 := bO5.cell
    have hlO5 := bO5.lt
    have hcR5 := bR5.cell
    have hfR5 := bR5.frozen
    have hlR5 := bR5.lt
    have HO5 := Lib.hid O5
    have HK5 := Lib.hid k5
    have HR5 := Lib.hid bR5
    clear O5 k5 k3 hO3 bO4 bR4 bS4 bO5 bR5 hO hU3 hge hrun1 hrun2 hc2 hc3 HCC
    go_wp2_with (fail)
    generalize (w3.alloc (.cells #[.slice An g.1.length cn, .slice (some ⟨gS, 0, none⟩) g.2.length cS] 25)).setCell ⟨gS, j, none⟩ (.slice A2 (ln + 1) c2) = w5 at *
    have HBX : Blk ((w5.setCell ⟨w.heap.size + 1, 0, none⟩ (.slice An g.1.length cn)).setCell ⟨w.heap.size + 1, 1, none⟩ (.slice (some ⟨gS, 0, none⟩) g.2.length cS)) (w.heap.size + 1) 25 #[.slice An g.1.length cn, .slice (some ⟨gS, 0, none⟩) g.2.length cS] := by
      have := (HR5.out.set_ 0 (Value.slice An g.1.length cn)).set_ 1 (Value.slice (some ⟨gS, 0, none⟩) g.2.length cS)
      simpa using this
    refine bodyPost_ret (ret_push rfl _ _ (w.heap.size + 1) _ _ rfl HBX) rfl ?_
    have O6 := (HO5.out.far HR5.out (by decide) (by decide) (by decide) 0 (.slice An g.1.length cn)).far (HR5.out.set_ 0 _) (by decide) (by decide) (by decide) 1 (.slice (some ⟨gS, 0, none⟩) g.2.length cS)
    have k6 := (HK5.out.setCell (p := ⟨w.heap.size + 1, 0, none⟩) (by simp) (.slice An g.1.length cn)).setCell (p := ⟨w.heap.size + 1, 1, none⟩) (by simp) (.slice (some ⟨gS, 0, none⟩) g.2.length cS)
    exact ⟨_, _, _, _, _, _, us, rfl, O6.grR (fun w' k => HGD.out w' (k.ahead k6)), k6⟩
  · have er : rme g j = 4 := by unfold rme; rw [if_neg h16]
    rw [er]
    have hc2 := fun o1 o2 => Up.cell (((Up.refl w).alloc o1).alloc o2) hc0
    generalize (rowOf g j).length = ln at *
    have d1 : decide ((ln : Int) ≥ 16) = true := decide_eq_true (by omega)
    clear hns hrw hrv hsl hg hgd
    go_enter Try.func35, Try.ntmps35
    go_wp2
    refine bodyPost_ret (ret_push rfl _ _ (w.heap.size + 1) _ _ rfl (Blk.new' _ (by simp) _ _)) rfl ?_
    have k := ((Up.refl w).alloc (.cells #[.slice A g.1.length c, .slice (some p) g.2.length d] 25)).alloc (.cells #[.slice A g.1.length c, .slice (some p) g.2.length d] 25)
    exact ⟨_, _, _, _, _, _, us, rfl, HRR.out.upw k, k⟩
/-- An answer of an error alone. -/
theorem rno_any (v : Value) (g : Gr) (z : Int) (w : World) (hg : GrV w v g) : Calls Try.prog 33 #[v, .int .i64 z] w fun e w' => e = .returned (.tuple #[v, .agg #[.int .i64 z, .int .u64 0, .bool false]]) ∧ Up w w' := by
  obtain ⟨A, c, B, d, rfl, m1, m2⟩ := hg.form
  clear hg
  generalize g.1.length = n at *
  generalize g.2.length = s at *
  go_enter Try.func33, Try.ntmps33
  go_wp2
  refine bodyPost_ret (ret_do rfl _ _ (w.heap.size + 1) (w.heap.size + 1 + 1) _ _ _ _ _ rfl (Blk.alloc (Blk.new' (w.alloc _) (by simp) _ _) _) rfl (Blk.new' ((w.alloc _).alloc _) (by simp) _ _)) rfl ?_
  have k := (((Up.refl w).alloc (.cells #[.slice A n c, .slice B s d] 25)).alloc (.cells #[.slice A n c, .slice B s d] 25)).alloc (.cells #[.int .i64 z, .int .u64 0, .bool false] 39)
  exact ⟨rfl, k⟩
theorem nvs_put : ∀ (ns : List Nd) (us : List Value) (y : Nat) (n : Nd) (u : Value), us.length = ns.length → y < ns.length → ((((nvs ns us).set (y * 4) (.int .i64 n.1.1)).set (y * 4 + 1) (.int .i64 n.1.2.1)).set (y * 4 + 2) (.int .u64 n.1.2.2)).set (y * 4 + 3) u = nvs (ns.set y n) (us.set y u)
  | [], us, y, n, u, _, h => by simp at h
  | m :: r, [], y, n, u, h, _ => by cases h
  | m :: r, x :: us, 0, n, u, h, _ => by simp [nvs]
  | m :: r, x :: us, y + 1, n, u, h, hy => by
    have ih := nvs_put r us y n u (by simpa using h) (by simpa using hy)
    rw [show (y + 1) * 4 = y * 4 + 1 + 1 + 1 + 1 from by omega]
    simp only [nvs, List.set_cons_succ, List.set_cons_zero]
    rw [← ih]
theorem gd_set {k : IntKind} {w : World} {us : List Value} {L : List (List Int)} {j : Nat} {u : Value} {xs : List Int} (h : Gd k w us L) (hu : Sl k w u xs) : Gd k w (us.set j u) (L.set j xs) := by
  refine ⟨by simp [h.1], fun i v ys h1 h2 => ?_⟩
  by_cases q : j = i
  · subst q
    have hj : j < us.length := by
      rcases Nat.lt_or_ge j us.length with q | q
      · exact q
      · rw [List.getElem?_eq_none (by simpa using q)] at h1; cases h1
    rw [List.getElem?_set_self hj] at h1
    rw [List.getElem?_set_self (by rw [← h.1]; exact hj)] at h2
    cases h1
    cases h2
    exact hu
  · rw [List.getElem?_set_ne q] at h1 h2
    exact h.2 i v ys h1 h2
/-- A node is another one. -/
theorem OwnC.setNode {base : Nat} {w : World} {vs u : Value} {g : Gr} {us us2 : List Value} {gN cN y : Nat} {n : Nd} {cur : Array Value} (h : OwnC base w (.slice (some ⟨gN, 0, none⟩) g.1.length cN) vs g us us2) (hul : us.length = g.1.length) (hy : y < g.1.length) (hb : Blk w gN 62 cur) :
    OwnC base ((((w.setCell ⟨gN, y * 4, none⟩ (.int .i64 n.1.1)).setCell ⟨gN, y * 4 + 1, none⟩ (.int .i64 n.1.2.1)).setCell ⟨gN, y * 4 + 2, none⟩ (.int .u64 n.1.2.2)).setCell ⟨gN, y * 4 + 3, none⟩ u) (.slice (some ⟨gN, 0, none⟩) g.1.length cN) vs (g.1.set y n, g.2) (us.set y u) us2 := by
  have b1 := hb.set_ (y * 4) (.int .i64 n.1.1)
  have b2 := b1.set_ (y * 4 + 1) (.int .i64 n.1.2.1)
  have b3 := b2.set_ (y * 4 + 2) (.int .u64 n.1.2.2)
  refine ⟨?_, own_far (own_far (own_far (own_far h.own hb (by decide) _ _) b1 (by decide) _ _) b2 (by decide) _ _) b3 (by decide) _ _, h.rows.keep fun b' cs' hb' => ?_⟩
  · show World.ownsRow _ base 62 4 _ (g.1.set y n).length (nvs (g.1.set y n) (us.set y u))
    rw [List.length_set, ← nvs_put _ _ _ _ _ hul hy]
    exact (World.ownsRow.stored (World.ownsRow.stored (World.ownsRow.stored (World.ownsRow.stored h.nodes _ _).1 _ _).1 _ _).1 _ _).1
  · have hne := hb'.ne_type hb (by decide)
    exact (((hb'.far (p := ⟨gN, y * 4, none⟩) hne _).far (p := ⟨gN, y * 4 + 1, none⟩) hne _).far (p := ⟨gN, y * 4 + 2, none⟩) hne _).far (p := ⟨gN, y * 4 + 3, none⟩) hne _
set_option maxRecDepth 100000 in
set_option maxHeartbeats 4000000 in
theorem rset_any (A B : Option Addr) (c d n s : Nat) (us : List Value) (g : Gr) (y i : Nat) (x : Int) (w0 w : World) (k0 : Up w0 w) (hr : GrR w0 w (.slice A n c) (.slice B s d) us g) (hF : FitG g) (hy : y < g.1.length) (hi : i < (ndOf g ((y : Int) + 1)).2.length) : Calls Try.prog 39 #[.agg #[.slice A n c, .slice B s d], .int .i64 (y : Int), .int .i64 (i : Int), .int .u64 x] w fun e w' => ∃ A' n' c' B' s' d' us', e = .returned (.agg #[.slice A' n' c', .slice B' s' d']) ∧ GrR w0 w' (.slice A' n' c') (.slice B' s' d') us' (setF g ((y : Int) + 1) i x) ∧ Up w w' := by
  obtain ⟨hns, hrw⟩ := hr w (Kq.of k0 (Up.refl w))
  have hn1 : g.1.length = n := by obtain ⟨_, _, e, _⟩ := hns; cases e; rfl
  have hs1 : g.2.length = s := by obtain ⟨_, _, _, e, _⟩ := hrw; cases e; rfl
  subst hn1
  subst hs1
  have m1 : g.1.length ≤ 9223372036854775807 := by have := hF.n; omega
  have m2 : g.2.length ≤ 9223372036854775807 := by have := hF.s; omega
  have hgd : ∀ w', Kq w0 w w' → Gd .u64 w' us (g.1.map (·.2)) := fun w' k => (hr w' k).1.gd
  have hul : us.length = g.1.length := by rw [hns.gd.1, List.length_map]
  clear hr
  obtain ⟨p, u, rfl, huy, ⟨z0, z1, z2, z3⟩, hsl⟩ := hns.at_ hy
  have hnd2 : g.1.getD y ((0, 0, 0), []) = ndOf g ((y : Int) + 1) := by unfold ndOf; rw [show ((y : Int) + 1).toNat - 1 = y from by omega]
  have eF : setF g ((y : Int) + 1) i x = (g.1.set y ((ndOf g ((y : Int) + 1)).1, (ndOf g ((y : Int) + 1)).2.set i x), g.2) := by unfold setF; rw [show ((y : Int) + 1).toNat - 1 = y from by omega]
  rw [eF]
  rw [hnd2] at z0 z1 z2 hsl
  have hfl : (ndOf g ((y : Int) + 1)).2.length ≤ 1099511627776 := by
    have h1 : (g.1.map (·.2)).getD y [] = (ndOf g ((y : Int) + 1)).2 := by rw [← hnd2]; simp [List.getD, List.getElem?_eq_getElem hy]
    have h2 := flat_one (g.1.map (·.2)) (x := y) (by rw [List.length_map]; exact hy)
    have h3 := flat_le (g.1.map (·.2)) (y + 1)
    have h4 := hF.f
    rw [h1] at h2
    omega
  obtain ⟨nd, hnd⟩ : ∃ nd, ndOf g ((y : Int) + 1) = nd := ⟨_, rfl⟩
  rw [hnd] at z0 z1 z2 hsl hfl hi ⊢
  obtain ⟨Au, cu, rfl⟩ := hsl.slice
  obtain ⟨-, hrv, -, -, -⟩ := hsl.rv
  have HCC := Lib.hid (fun W (k : Up w W) => rcopied_any (.slice (some p) g.1.length c) (.slice B g.2.length d) g us W (hns.up k) (hrw.up k) hF)
  have k2 := ((Up.refl w).alloc (.cells #[.slice (some p) g.1.length c, .slice B g.2.length d] 25)).alloc (.cells #[.slice none 0 0, .slice none 0 0] 25)
  have bG2 := (Blk.new w 25 #[.slice (some p) g.1.length c, .slice B g.2.length d]).alloc (.cells #[.slice none 0 0, .slice none 0 0] 25)
  have bR2 := Blk.new' (w.alloc (.cells #[.slice (some p) g.1.length c, .slice B g.2.length d] 25)) (g := w.heap.size + 1) (by simp) 25 #[.slice none 0 0, .slice none 0 0]
  clear hns hrw
  go_enter Try.func39, Try.ntmps39
  go_wp2_with (fail)
  refine (HCC.out _ k2).mono ?_
  rintro e w1 ⟨vn, vs, us2, rfl, hO, hU1⟩
  obtain ⟨gN, cN, cur, rfl, hge, hbN, hszN⟩ := hO.vnf (by omega)
  obtain ⟨As, cs, rfl⟩ := own_slice hO.own
  have hO3 := hO.le k2.size
  have k1 := k2.trans hU1
  have bG1 := bG2.up hU1
  have bR1 := bR2.up hU1
  obtain ⟨W3, hW3⟩ : ∃ W3, W3 = (w1.alloc (.cells #[.slice (some ⟨gN, 0, none⟩) g.1.length cN, .slice As g.2.length cs] 25)).alloc (.cells #[] 26) := ⟨_, rfl⟩
  have k3 : Up w1 W3 := by rw [hW3]; exact ((Up.refl w1).alloc _).alloc _
  have bE : Blk W3 (w1.heap.size + 1) 26 #[] := by rw [hW3]; exact Blk.new' _ (by simp) _ _
  have bO3 : Blk W3 w1.heap.size 25 #[.slice (some ⟨gN, 0, none⟩) g.1.length cN, .slice As g.2.length cs] := by rw [hW3]; exact (Blk.new w1 _ _).alloc _
  have hsz1 := k1.size
  have oE := own_empty (n₀ := w1.heap.size) (size := 1) bE (by omega)
  obtain ⟨v1, wa, hrun1, ho1, hga, -⟩ := run_any el_u64 (w := W3) 60 w1.heap.size 0 _ [] oE Au nd.2.length cu (nd.2.map (Value.int .u64)) (by simp) (hrv.up (k1.trans k3)) (one_ints _ _) (by omega) k3.size
  rw [Nat.zero_add, List.nil_append] at ho1
  have ka := up_own k3 oE hga
  obtain ⟨gF, cF, curF, rfl, hgeF, hbF, hszF⟩ : ∃ gF cF curF, v1 = .slice (some ⟨gF, 0, none⟩) nd.2.length cF ∧ w1.heap.size ≤ gF ∧ Blk wa gF 26 curF ∧ nd.2.length ≤ curF.size := by
    rcases ho1.2 with ⟨_, q⟩ | ⟨gF, cF, curF, q, q1, q2, q3, _, q4, _⟩
    · omega
    · exact ⟨gF, cF, curF, q, q1, q2, by omega⟩
  have oF : (wa.setCell ⟨gF, i, none⟩ (.int .u64 x)).ownsRow w1.heap.size 26 1 (.slice (some ⟨gF, 0, none⟩) nd.2.length cF) (nd.2.set i x).length ((nd.2.set i x).map (Value.int .u64)) := by
    rw [List.length_set, List.map_set]
    exact (World.ownsRow.stored ho1 i (.int .u64 x)).1
  have kb : Up w1 (wa.setCell ⟨gF, i, none⟩ (.int .u64 x)) := ka.setCell hgeF _
  have bOa := bO3.grown hga (own_row_ne oE bO3 (by decide))
  have bOb := bOa.far (p := ⟨gF, i, none⟩) (bOa.ne_type hbF (by decide)) (.int .u64 x)
  have hcF := (hbF.cell i).trans (Array.getElem?_eq_getElem (by omega))
  have hfF := hbF.frozen
  have hlF := hbF.lt
  have kwb := k1.trans kb
  have bGb := bG1.up kb
  have bRb := bR1.up kb
  have bNb := hbN.up kb
  have hOb := hO3.up kb
  have y0 := fun o1 o2 => Up.cell ((k1.alloc o1).alloc o2) z3
  have hlp := lt_of_cell z3
  have hlp1 := k1.lt hlp
  have qG1 := bG1.cell
  have lG1 := bG1.lt
  have qGb := bGb.cell
  have lGb := bGb.lt
  have qOb := bOb.cell
  have lOb := bOb.lt
  have n0 := (bNb.cell (y * 4)).trans (Array.getElem?_eq_getElem (by omega))
  have n1 := (bNb.cell (y * 4 + 1)).trans (Array.getElem?_eq_getElem (by omega))
  have n2 := (bNb.cell (y * 4 + 2)).trans (Array.getElem?_eq_getElem (by omega))
  have n3 := (bNb.cell (y * 4 + 3)).trans (Array.getElem?_eq_getElem (by omega))
  have fN := bNb.frozen
  have lN := bNb.lt
  have x0 := kwb.cell z0
  have x1 := kwb.cell z1
  have x2 := kwb.cell z2
  have hlpb := kwb.lt hlp
  have N1 := hOb.setNode (y := y) (n := (nd.1, nd.2.set i x)) (u := .slice (some ⟨gF, 0, none⟩) nd.2.length cF) hul hy bNb
  have hneO := bOb.ne_type bNb (by decide)
  have bO4 := (((bOb.far (p := ⟨gN, y * 4, none⟩) hneO (.int .i64 nd.1.1)).far (p := ⟨gN, y * 4 + 1, none⟩) hneO (.int .i64 nd.1.2.1)).far (p := ⟨gN, y * 4 + 2, none⟩) hneO (.int .u64 nd.1.2.2)).far (p := ⟨gN, y * 4 + 3, none⟩) hneO (.slice (some ⟨gF, 0, none⟩) nd.2.length cF)
  have hneR := bRb.ne_type bNb (by decide)
  have bR4 := (((bRb.far (p := ⟨gN, y * 4, none⟩) hneR (.int .i64 nd.1.1)).far (p := ⟨gN, y * 4 + 1, none⟩) hneR (.int .i64 nd.1.2.1)).far (p := ⟨gN, y * 4 + 2, none⟩) hneR (.int .u64 nd.1.2.2)).far (p := ⟨gN, y * 4 + 3, none⟩) hneR (.slice (some ⟨gF, 0, none⟩) nd.2.length cF)
  have hgN : w.heap.size ≤ gN := by have := k2.size; omega
  have k4 := (((kwb.setCell (p := ⟨gN, y * 4, none⟩) hgN (.int .i64 nd.1.1)).setCell (p := ⟨gN, y * 4 + 1, none⟩) hgN (.int .i64 nd.1.2.1)).setCell (p := ⟨gN, y * 4 + 2, none⟩) hgN (.int .u64 nd.1.2.2)).setCell (p := ⟨gN, y * 4 + 3, none⟩) hgN (.slice (some ⟨gF, 0, none⟩) nd.2.length cF)
  have o4 := own_far (own_far (own_far (own_far oF bNb (by decide) (y * 4) (.int .i64 nd.1.1)) (bNb.set_ _ _) (by decide) (y * 4 + 1) (.int .i64 nd.1.2.1)) ((bNb.set_ _ _).set_ _ _) (by decide) (y * 4 + 2) (.int .u64 nd.1.2.2)) (((bNb.set_ _ _).set_ _ _).set_ _ _) (by decide) (y * 4 + 3) (.slice (some ⟨gF, 0, none⟩) nd.2.length cF)
  have qO4 := bO4.cell
  have lO4 := bO4.lt
  have qR4 := bR4.cell
  have fR4 := bR4.frozen
  have lR4 := bR4.lt
  have HN1 := Lib.hid N1
  have HR4 := Lib.hid bR4
  have HK4 := Lib.hid k4
  have HO4 := Lib.hid o4
  have HGD := Lib.hid hgd
  have HUL := Lib.hid hul
  clear N1 bR4 bO4 k4 o4 hneO hneR hOb bOa bO3 oE ho1 hga ka kb kwb k1 bG1 bR1 bE k3 oF hgd HCC bG2 bR2 k2 hO hO3 hU1 hsl hrv bGb bRb bOb
  subst hW3
  go_wp2_with (at_builtin; refine Lib.wpList_append_run _ rfl _ _ _ _ rfl _ _ rfl rfl _ _ hrun1 ?_)
  go_region
  go_wp2_with (fail)
  generalize ((((wa.setCell ⟨gF, i, none⟩ (.int .u64 x)).setCell ⟨gN, y * 4, none⟩ (.int .i64 nd.1.1)).setCell ⟨gN, y * 4 + 1, none⟩ (.int .i64 nd.1.2.1)).setCell ⟨gN, y * 4 + 2, none⟩ (.int .u64 nd.1.2.2)).setCell ⟨gN, y * 4 + 3, none⟩ (.slice (some ⟨gF, 0, none⟩) nd.2.length cF) = w5 at *
  have HBX : Blk (((w5.setCell ⟨w.heap.size + 1, 0, none⟩ (.slice (some ⟨gN, 0, none⟩) g.1.length cN)).setCell ⟨w.heap.size + 1, 1, none⟩ (.slice As g.2.length cs)).drew) (w.heap.size + 1) 25 #[.slice (some ⟨gN, 0, none⟩) g.1.length cN, .slice As g.2.length cs] := by
    have := (HR4.out.set_ 0 (Value.slice (some ⟨gN, 0, none⟩) g.1.length cN)).set_ 1 (Value.slice As g.2.length cs)
    simpa using this.drew
  refine bodyPost_ret (results_cell_row rfl _ _ (w.heap.size + 1) 25 _ _ _ rfl HBX Try.underlying25 rfl (by kernel_rfl)) rfl ?_
  have O6 := ((HN1.out.far HR4.out (by decide) (by decide) (by decide) 0 (.slice (some ⟨gN, 0, none⟩) g.1.length cN)).far (HR4.out.set_ 0 _) (by decide) (by decide) (by decide) 1 (.slice As g.2.length cs)).up ((Up.refl _).drew)
  have k6 := ((HK4.out.setCell (p := ⟨w.heap.size + 1, 0, none⟩) (by simp) (.slice (some ⟨gN, 0, none⟩) g.1.length cN)).setCell (p := ⟨w.heap.size + 1, 1, none⟩) (by simp) (.slice As g.2.length cs)).drew
  have o6 := own_up (own_far (own_far HO4.out HR4.out (by decide) 0 (.slice (some ⟨gN, 0, none⟩) g.1.length cN)) (HR4.out.set_ 0 _) (by decide) 1 (.slice As g.2.length cs)) ((Up.refl _).drew)
  refine ⟨_, _, _, _, _, _, _, rfl, O6.grR (fun w' k => ?_), k6⟩
  show Gd .u64 _ _ ((g.1.set y (nd.1, nd.2.set i x)).map (·.2))
  rw [List.map_set]
  exact gd_set (HGD.out w' (k.ahead k6)) (sl_own (own_keep o6 (fun b cs hb => k.keep b _ cs (by decide) (by decide) hb)) rfl)
end Go.Proofs.Ytlocllcijncllaa
