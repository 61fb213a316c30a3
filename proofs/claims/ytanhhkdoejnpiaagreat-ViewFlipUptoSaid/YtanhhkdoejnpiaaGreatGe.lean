/- graph.Canon: contract. -/
import Derived.Test.YtanhhkdoejnpiaaGreatGd
/-! Of stage 15 -/
namespace Go.Proofs.YtanhhkdoejnpiaaGreat.G
open Go.Joins Go.ChangeShapes Go.WideShapes Go.ChangeAt Go.RowKit Go.Deep Go.Shelf Go.Maps
set_option linter.unusedVariables false
set_option linter.unusedSimpArgs false

/-- Rows of handles that are mapped up to one. -/
structure Rx (g : Gr) (w0 : World) (GB PB PL OB RB c : Nat) (A : Option Addr) (vs0 : Value) (GS BS M : Nat) (us2 : List Value) (j i : Nat) (vn : Value) (us : List Value) (o : List Int) (wr : World) : Prop where
  oe : o = vall g 1001 (rup g.2 j i) []
  cn : Cn g w0 GB PB PL OB RB c A vs0 (.slice (some ⟨GS, 0, none⟩) g.2.length g.2.length) vn us o wr
  grid : Blk wr GS 72 us2.toArray
  ct : Ct .i64 3 w0.heap.size wr us2 (Lx o g.2 j i) BS
  rows : ∀ (k : Nat) (u : Value) (m : Int), us[k]? = some u → o[k]? = some m → wr.ownsRow M 67 1 u (ndOf g m).2.length ((mpF (pl o) (ndOf g m)).2.map (Value.int .u64))
  m : M ≤ wr.heap.size
  plm : PL < M
  obm : OB < M
set_option maxRecDepth 100000 in
theorem nvs_heads : ∀ (ns ms : List Nd) (us : List Value), ns.map (·.1) = ms.map (·.1) → nvs ns us = nvs ms us
  | [], [], us, _ => rfl
  | [], m :: r, us, h => by simp at h
  | n :: r, [], us, h => by simp at h
  | n :: r, m :: r', [], h => rfl
  | n :: r, m :: r', u :: us, h => by
    simp only [List.map_cons, List.cons.injEq] at h
    simp [nvs, h.1, nvs_heads r r' us h.2]
set_option maxRecDepth 100000 in
theorem sl_of_own {k : IntKind} {w : World} {n₀ n : Nat} {e : TypeId} {u : Value} {xs : List Int} (h : w.ownsRow n₀ e 1 u n (xs.map (Value.int k))) (hl : xs.length = n) : Sl k w u xs := by
  obtain ⟨A, c, rfl⟩ := own_slice h
  obtain ⟨_, q1, q2, q3, q4⟩ := rv_of_own h (by simp [hl])
  exact ⟨A, c, by rw [hl], by omega, q2, q3, q4⟩
section
variable {g : Gr} {w0 wr w2 : World} {GB PB PL OB RB c GS BS M j i : Nat} {A : Option Addr} {vs0 vn : Value} {us us2 : List Value} {o : List Int}
set_option maxRecDepth 100000 in
theorem Rx.up (h : Rx g w0 GB PB PL OB RB c A vs0 GS BS M us2 j i vn us o wr) (k : Up wr w2) : Rx g w0 GB PB PL OB RB c A vs0 GS BS M us2 j i vn us o w2 :=
  ⟨h.oe, h.cn.upw k, h.grid.up k, h.ct.up k, fun a u m h1 h2 => own_up (h.rows a u m h1 h2) k, Nat.le_trans h.m k.size, h.plm, h.obm⟩
set_option maxRecDepth 100000 in
theorem Rx.next (h : Rx g w0 GB PB PL OB RB c A vs0 GS BS M us2 j i vn us o wr) (hj : j < g.2.length) (hi : i = (g.2.getD j []).length) : Rx g w0 GB PB PL OB RB c A vs0 GS BS M us2 (j + 1) 0 vn us o wr :=
  ⟨by rw [← rup_next hj hi]; exact h.oe, h.cn, h.grid, by rw [← Lx_next hi]; exact h.ct, h.rows, h.m, h.plm, h.obm⟩
set_option maxRecDepth 100000 in
theorem Rx.more (h : Rx g w0 GB PB PL OB RB c A vs0 GS BS M us2 j i vn us o wr) (hn : g.1.length ≤ 1000) : More g (rup g.2 j i) [] o := by
  rw [h.oe]
  exact vall_more (vis_more g 1001) _ _ ⟨by simp, fun m hm => (by cases hm)⟩ (by simp; omega)
set_option maxRecDepth 100000 in
theorem Rx.blkB (h : Rx g w0 GB PB PL OB RB c A vs0 GS BS M us2 j i vn us o wr) (hj : j < g.2.length) (hi : i < (g.2.getD j []).length) : w0.heap.size ≤ BS ∧ ∃ cs, Blk wr BS 3 cs ∧ off (Lx o g.2 j i) j + i < cs.size ∧ cs[off (Lx o g.2 j i) j + i]? = some (.int .i64 ((g.2.getD j []).getD i 0)) := by
  have h1 := Lx_row o g.2 i hj
  have hlt : i < (hrow o (g.2.getD j []) i).length := by rw [hrow_len]; exact hi
  have h2 : (hrow o (g.2.getD j []) i)[i]? = some ((g.2.getD j []).getD i 0) := by
    have q := hrow_at o (g.2.getD j []) i hi
    rw [if_neg (by omega)] at q
    rw [← q]
    generalize hrow o (g.2.getD j []) i = z at *
    simp [List.getD, List.getElem?_eq_getElem hlt]
  have h3 := flat_at h1 h2
  obtain ⟨h4, cs, h5, h6⟩ := h.ct.blk (fun q => by rw [q] at h3; simp at h3)
  have h7 := h6 _ _ h3
  refine ⟨h4, cs, h5, ?_, h7⟩
  rcases Nat.lt_or_ge (off (Lx o g.2 j i) j + i) cs.size with q | q
  · exact q
  · rw [Array.getElem?_eq_none q] at h7; cases h7
set_option maxRecDepth 100000 in
/-- One more handle. -/
theorem Rx.step (h : Rx g w0 GB PB PL OB RB c A vs0 GS BS M us2 j i vn us o wr) (hn : g.1.length ≤ 1000) (hj : j < g.2.length) (hi : i < (g.2.getD j []).length) {v : Int} (hv : (g.2.getD j []).getD i 0 = v) {e : Ending} (hC : RcPost g w0 GB PB PL OB RB c A vs0 (.slice (some ⟨GS, 0, none⟩) g.2.length g.2.length) vn us o (vis g 1001 v o) v wr e w2) :
    e = .returned (.int .u64 (pl (vis g 1001 v o) v)) ∧ (∃ cs, Blk w2 BS 3 cs ∧ off (Lx o g.2 j i) j + i < cs.size) ∧ Blk w2 GS 72 us2.toArray ∧ pl (vis g 1001 v o) v ≤ g.1.length ∧
      ∃ vn2 us', Rx g w0 GB PB PL OB RB c A vs0 GS BS M us2 j (i + 1) vn2 us' (vis g 1001 v o) (w2.setCell ⟨BS, off (Lx o g.2 j i) j + i, none⟩ (.int .i64 (pl (vis g 1001 v o) v))) := by
  obtain ⟨vn2, us', rfl, C2, K2, N2, P2, R2⟩ := hC
  obtain ⟨hBS, cs, hcs, hsz, -⟩ := h.blkB hj hi
  have hB2 : Blk w2 BS 3 cs := hcs.kc K2 (hcs.ne_type h.cn.hL (by decide)) (hcs.ne_type h.cn.hO (by decide)) (h.cn.no hcs (by decide))
  have hG2 : Blk w2 GS 72 us2.toArray := h.grid.kc K2 (h.grid.ne_type h.cn.hL (by decide)) (h.grid.ne_type h.cn.hO (by decide)) (h.cn.no h.grid (by decide))
  have MR := h.more hn
  have MV := vis_more g 1001 v o h.cn.td (by omega)
  have hpl := h.plm
  have hob := h.obm
  have hm := h.m
  have stab : ∀ n ∈ rup g.2 j i, pl (vis g 1001 v o) n = pl o n := fun n hnr => by
    by_cases q : inN g n
    · exact pl_pre MV.pre (MR.hs n hnr q)
    · rw [pl_out h.cn.td q, pl_out C2.td q]
  refine ⟨rfl, ⟨cs, hB2, hsz⟩, hG2, by have := (pl_bd (vis g 1001 v o) v).2; have := C2.td.len; omega, vn2, us', ?_, C2.farI hB2 hBS _, hG2.far (p := ⟨BS, _, none⟩) (hG2.ne_type hB2 (by decide)) _, ?_, fun k u m h2 h3 => ?_, by simpa using Nat.le_trans hm K2.size, hpl, hob⟩
  · rw [rup_step hi, vall_app, ← h.oe, hv, vall_one]
  · rw [Lx_step hj hi stab, hv]
    have h1 := Lx_row o g.2 i hj
    exact (h.ct.keep (w' := w2) (fun b cs hb => hb.kc K2 (hb.ne_type h.cn.hL (by decide)) (hb.ne_type h.cn.hO (by decide)) (h.cn.no hb (by decide)))).set_ h1 (by rw [hrow_len]; exact hi) _
  · rcases Nat.lt_or_ge k o.length with q | q
    · have hu2 : us[k]? = some u := by
        obtain ⟨t, rfl⟩ := P2
        rwa [List.getElem?_append_left (by rw [h.cn.hus]; exact q)] at h2
      have hm2 : o[k]? = some m := by
        obtain ⟨t, ht⟩ := MV.pre
        rw [← ht, List.getElem?_append_left q] at h3
        exact h3
      have hr := h.rows k u m hu2 hm2
      have hmo : m ∈ o := List.mem_of_getElem? hm2
      rw [mp_pre h.cn.td C2.td MV.pre (MR.cl m hmo (by simp))]
      exact own_far (own_new hr h.cn K2 hpl hob) hB2 (by decide) _ _
    · exact own_far (own_le (R2 k u m q h2 h3) hm) hB2 (by decide) _ _
set_option maxRecDepth 100000 in
/-- All handles. -/
theorem Rx.gr (h : Rx g w0 GB PB PL OB RB c A vs0 GS BS M us2 g.2.length 0 vn us o wr) (hs : g.2.length ≤ maxLen) {w' : World} (hk : ∀ b t cs, t ≠ 30 → Blk wr b t cs → Blk w' b t cs) : GrV w' (.agg #[vn, .slice (some ⟨GS, 0, none⟩) g.2.length g.2.length]) (canon g) := by
  have ho : o = ord g := by rw [h.oe, rup_all]; rfl
  have hul := h.cn.hus
  have hc1 : (canon g).1 = o.map fun m => mpF (pl o) (ndOf g m) := by rw [ho]; rfl
  have hc2 : (canon g).2 = Lx o g.2 g.2.length 0 := by rw [Lx_all, ho]; rfl
  refine ⟨_, _, rfl, ⟨us, ?_⟩, us2, ?_⟩
  · rw [hc1]
    refine ns_of_own (base := w0.heap.size) ?_ ⟨by simp [hul], fun k u xs h1 h2 => ?_⟩
    · rw [List.length_map, nvs_heads (o.map fun m => mpF (pl o) (ndOf g m)) (o.map (ndOf g)) us (by rw [List.map_map, List.map_map]; rfl)]
      exact own_keep h.cn.hN (fun b cs hb => hk b _ cs (by decide) hb)
    · rw [List.map_map, List.getElem?_map] at h2
      obtain ⟨m, hm, rfl⟩ := Option.map_eq_some_iff.1 h2
      exact sl_of_own (own_keep (h.rows k u m h1 hm) (fun b cs hb => hk b _ cs (by decide) hb)) (by show (mpF (pl o) (ndOf g m)).2.length = _; rw [mp_len])
  · rw [hc2]
    exact ⟨_, _, by rw [Lx_len], by rw [Lx_len]; exact Nat.le_refl _, hs, fun q => (by cases q), rv_of_blk (hk _ _ _ (by decide) h.grid) (fun a u hi => by simpa using hi), (h.ct.keep (w' := w') (fun b cs hb => hk b _ cs (by decide) hb)).gd⟩
end
/-! What is reached, in order (graph.Canon): contract. -/

def Ro1 (g : Gr) (w0 : World) (GB PB PL OB RB c : Nat) (A : Option Addr) (vs0 : Value) (GS BS M : Nat) (us2 : List Value) (i : Value) (wr : World) : Prop :=
  ∃ j vn us o, j ≤ g.2.length ∧ i = .int .i64 (j : Nat) ∧ Rx g w0 GB PB PL OB RB c A vs0 GS BS M us2 j 0 vn us o wr
def Ro2 (g : Gr) (w0 : World) (GB PB PL OB RB c : Nat) (A : Option Addr) (vs0 : Value) (GS BS M : Nat) (us2 : List Value) (j : Nat) (i : Value) (wr : World) : Prop :=
  ∃ x vn us o, x ≤ (g.2.getD j []).length ∧ i = .int .i64 (x : Nat) ∧ Rx g w0 GB PB PL OB RB c A vs0 GS BS M us2 j x vn us o wr
set_option maxRecDepth 100000 in
theorem Rx.rowv {g : Gr} {w0 wr : World} {GB PB PL OB RB c GS BS M j i : Nat} {A : Option Addr} {vs0 vn : Value} {us us2 : List Value} {o : List Int} (h : Rx g w0 GB PB PL OB RB c A vs0 GS BS M us2 j i vn us o wr) (hj : j < g.2.length) :
    ∃ A', us2[j]? = some (.slice A' (g.2.getD j []).length (g.2.getD j []).length) ∧ ((g.2.getD j []).length ≠ 0 → A' = some ⟨BS, off (Lx o g.2 j i) j, none⟩) := by
  have hju : j < us2.length := by rw [h.ct.len, Lx_len]; exact hj
  obtain ⟨A', e, e2, e3⟩ := h.ct.row j _ _ (List.getElem?_eq_getElem hju) (Lx_row o g.2 i hj)
  rw [hrow_len] at e
  refine ⟨A', by rw [List.getElem?_eq_getElem hju, e], fun q => e3 (fun q2 => q ?_)⟩
  have := hrow_len o (g.2.getD j []) i
  rw [q2] at this
  exact this.symm
set_option maxRecDepth 100000 in
set_option maxHeartbeats 4000000 in
theorem canon_any (v : Value) (g : Gr) (w : World) (hg : GrV w v g) (hR : Rg g) (hn : g.1.length ≤ 1000) (hF : FitG g) : Calls Tryz.prog 54 #[v] w fun e w' => ∃ u, e = .returned u ∧ GrV w' u (canon g) ∧ Up w w' := by
  obtain ⟨Ag, cg, Bg, dg, rfl, m1, m2⟩ := hg.form
  obtain ⟨va, vb, e, hns, hrw⟩ := hg
  simp only [Value.agg.injEq, Array.mk.injEq, List.cons.injEq, and_true] at e
  obtain ⟨rfl, rfl⟩ := e
  have HCP := Lib.hid (fun w' (k : Up w w') => copied_any (.agg #[.slice none 0 0, .slice Bg g.2.length dg]) ([], g.2) w' ⟨_, _, rfl, Ns.nil _, hrw.up k⟩ ⟨by simp, by simp, hF.s, hF.h⟩)
  have HNS := Lib.hid hns
  have HR := Lib.hid hR
  have HN := Lib.hid hn
  have HSF := Lib.hid hF.s
  have HSH := Lib.hid hF.h
  have hmk := make_wordsN g.1.length (by omega)
  have U2 := Lib.hid (((Up.refl w).alloc (.cells #[.slice Ag g.1.length cg, .slice Bg g.2.length dg] 30)).alloc (.cells #[.slice none 0 0, .slice none 0 0] 30))
  have bG := (Blk.new w 30 #[.slice Ag g.1.length cg, .slice Bg g.2.length dg]).alloc (.cells #[.slice none 0 0, .slice none 0 0] 30)
  have bO := Blk.new' (w.alloc (.cells #[.slice Ag g.1.length cg, .slice Bg g.2.length dg] 30)) (g := w.heap.size + 1) (by simp) 30 #[.slice none 0 0, .slice none 0 0]
  clear hns hrw hR hF
  go_enter Tryz.func54, Tryz.ntmps54
  go_wp2_with (fail)
  refine (HCP.out _ U2.out).mono ?_
  rintro e w1 ⟨vn, vs, us, us2, BF, GS, BS, rfl, hO, hU1⟩
  have bG1 := bG.up hU1
  have bO1 := bO.up hU1
  have hcG1 := bG1.cell
  have hlG1 := bG1.lt
  obtain ⟨A0, c0, rfl⟩ := own_slice hO.nodes
  have hv := hO.val
  subst hv
  clear HCP bG
  go_wp2_with (fail)
  have hus0 : us = [] := List.eq_nil_of_length_eq_zero (by have := hO.flds.len; simpa using this)
  have kw : Up w1 ((((w1.alloc (.cells #[.slice A0 0 c0, .slice (some ⟨GS, 0, none⟩) g.2.length g.2.length] 30)).alloc (.cells (Array.replicate g.1.length (Value.int .u64 0)) 67)).alloc (.cells #[.slice (some ⟨w1.heap.size + 1, 0, none⟩) g.1.length g.1.length] 22)).alloc (.cells #[rov w.heap.size (w1.heap.size + 1 + 1) w1.heap.size (w1.heap.size + 1 + 1 + 1)] 78)) := ((((Up.refl w1).alloc _).alloc _).alloc _).alloc _
  have hX : Gx ((w.alloc (.cells #[.slice Ag g.1.length cg, .slice Bg g.2.length dg] 30)).alloc (.cells #[.slice none 0 0, .slice none 0 0] 30)) w.heap.size (w1.heap.size + 1) w1.heap.size := ⟨Nat.le_trans hU1.size (by omega), hU1.size, by have := hU1.size; simp at this; omega⟩
  have hst : Rx g ((w.alloc (.cells #[.slice Ag g.1.length cg, .slice Bg g.2.length dg] 30)).alloc (.cells #[.slice none 0 0, .slice none 0 0] 30)) w.heap.size (w1.heap.size + 1 + 1) (w1.heap.size + 1) w1.heap.size (w1.heap.size + 1 + 1 + 1) cg Ag (.slice Bg g.2.length dg) GS BS (w1.heap.size + 1 + 1 + 1 + 1) us2 0 0 (.slice A0 0 c0) [] []
      ((((w1.alloc (.cells #[.slice A0 0 c0, .slice (some ⟨GS, 0, none⟩) g.2.length g.2.length] 30)).alloc (.cells (Array.replicate g.1.length (Value.int .u64 0)) 67)).alloc (.cells #[.slice (some ⟨w1.heap.size + 1, 0, none⟩) g.1.length g.1.length] 22)).alloc (.cells #[rov w.heap.size (w1.heap.size + 1 + 1) w1.heap.size (w1.heap.size + 1 + 1 + 1)] 78)) := by
    refine ⟨by rw [rup_0]; rfl, ⟨bG1.up kw, (Blk.new' _ (by simp) _ _).alloc _, ?_, (((Blk.new w1 _ _).alloc _).alloc _).alloc _, Blk.new' _ (by simp) _ _, ?_, rfl, ⟨by simp, fun m hm => (by cases hm)⟩, hU1.trans kw⟩, hO.grid.up kw, ?_, fun k u m h1 h2 => (by simp at h1), by simp, by omega, by omega⟩
    · rw [plc_nil, List.toArray_replicate]
      exact ((Blk.new' _ (by simp) _ _).alloc _).alloc _
    · have := own_up hO.nodes kw
      rw [hus0] at this
      exact this
    · rw [Lx_0]; exact hO.rows.up kw
  have HST := Lib.hid hst
  have HX := Lib.hid (reach_any g _ w.heap.size (w1.heap.size + 1 + 1) (w1.heap.size + 1) w1.heap.size (w1.heap.size + 1 + 1 + 1) cg Ag (.slice Bg g.2.length dg) (.slice (some ⟨GS, 0, none⟩) g.2.length g.2.length) hX (HNS.out.up U2.out) HR.out (by omega) 1001)
  have HRC := Lib.hid bO
  have HHN := Lib.hid HR.out.hn
  clear hst hX kw hus0 bG1 bO1 hcG1 hlG1 hO hU1 hmk HNS HR
  generalize hw0 : (w.alloc (.cells #[.slice Ag g.1.length cg, .slice Bg g.2.length dg] 30)).alloc (.cells #[.slice none 0 0, .slice none 0 0] 30) = w0 at HST HX HRC U2
  clear hw0
  generalize ((((w1.alloc (.cells #[.slice A0 0 c0, .slice (some ⟨GS, 0, none⟩) g.2.length g.2.length] 30)).alloc (.cells (Array.replicate g.1.length (Value.int .u64 0)) 67)).alloc (.cells #[.slice (some ⟨w1.heap.size + 1, 0, none⟩) g.1.length g.1.length] 22)).alloc (.cells #[rov w.heap.size (w1.heap.size + 1 + 1) w1.heap.size (w1.heap.size + 1 + 1 + 1)] 78)) = w3 at *
  go_loopw [22] (fun i wr => Ro1 g w0 w.heap.size (w1.heap.size + 1 + 1) (w1.heap.size + 1) w1.heap.size (w1.heap.size + 1 + 1 + 1) cg Ag (.slice Bg g.2.length dg) GS BS (w1.heap.size + 1 + 1 + 1 + 1) us2 i wr) (fun i _ => g.2.length - (intOf i).toNat)
  case atStart => exact ⟨0, _, _, _, Nat.zero_le _, rfl, HST.out⟩
  case round =>
    rename World => wo
    obtain ⟨j, vn, us, o, hj, rfl, hF⟩ := hrel
    by_cases hlt : j < g.2.length
    · obtain ⟨A', hu, hA⟩ := hF.rowv hlt
      have hcG : wo.cell? ⟨GS, j, none⟩ = some (.slice A' (g.2.getD j []).length (g.2.getD j []).length) := by rw [hF.grid.cell, List.getElem?_toArray]; exact hu
      have hlG := hF.grid.lt
      have HF := Lib.hid hF
      have HU := Lib.hid hu
      have hlen : (g.2.getD j []).length ≤ 9223372036854775807 := by
        have h1 := flat_one g.2 hlt
        have h2 := flat_le g.2 (j + 1)
        have h3 := HSH.out
        omega
      have HRN := Lib.hid (HHN.out (g.2.getD j []) (by simp [List.getD, List.getElem?_eq_getElem hlt]))
      clear hF hu hA
      generalize hrow_ : g.2.getD j [] = row at *
      have HRW := Lib.hid hrow_
      clear hrow_
      go_wp2_with (fail)
      go_loopw [28] (fun i wr => Ro2 g w0 w.heap.size (w1.heap.size + 1 + 1) (w1.heap.size + 1) w1.heap.size (w1.heap.size + 1 + 1 + 1) cg Ag (.slice Bg g.2.length dg) GS BS (w1.heap.size + 1 + 1 + 1 + 1) us2 j i wr) (fun i _ => row.length - (intOf i).toNat)
      case atStart => exact ⟨0, _, _, _, Nat.zero_le _, rfl, HF.out⟩
      case round =>
        rename World => wr
        obtain ⟨x, vn, us, o, hx, rfl, hF⟩ := hrel
        rw [HRW.out] at hx
        by_cases hlx : x < row.length
        · have hi : x < (g.2.getD j []).length := by rw [HRW.out]; exact hlx
          obtain ⟨F, rfl, hFo⟩ : ∃ F, A' = some ⟨BS, F, none⟩ ∧ off (Lx o g.2 j x) j = F := by
            obtain ⟨A2, q1, q2⟩ := hF.rowv hlt
            have q3 := q2 (by omega)
            rw [HU.out, HRW.out] at q1
            cases q1
            exact ⟨_, q3, rfl⟩
          obtain ⟨h, hh⟩ : ∃ h, (g.2.getD j []).getD x 0 = h := ⟨_, rfl⟩
          have hb : 0 ≤ h ∧ h ≤ g.1.length := HRN.out h (by rw [← hh, HRW.out]; exact getD_mem 0 hlx)
          obtain ⟨hBS, cs, hcs, hsz, hch⟩ := hF.blkB hlt hi
          rw [hFo, hh] at hch
          rw [hFo] at hsz
          have hcc : wr.cell? ⟨BS, F + x, none⟩ = some (.int .i64 h) := (hcs.cell _).trans hch
          have hlB := hcs.lt
          have hcR := hF.cn.hR.cell
          have hlR := hF.cn.hR.lt
          have HCL := Lib.hid (HX.out h _ _ _ _ hF.cn (by omega))
          have HFx := Lib.hid hF
          have HFO := Lib.hid hFo
          have HHH := Lib.hid hh
          clear hF hFo hh hcs hch hsz hcG
          go_wp2_with (fail)
          refine HCL.out.mono ?_
          rintro e w5 hpost
          obtain ⟨rfl, ⟨cs5, hB5, hsz⟩, hG5, hle, vn2, us', hR5⟩ := HFx.out.step HN.out hlt hi HHH.out hpost
          rw [HFO.out] at hR5 hsz
          have hge := (pl_bd (vis g 1001 h o) h).1
          have HR5 := Lib.hid hR5
          have hcB5 := (hB5.cell (F + x)).trans (Array.getElem?_eq_getElem hsz)
          have hfB5 := hB5.frozen
          have hlB5 := hB5.lt
          clear hpost hR5 hG5 hB5 HCL
          generalize pl (vis g 1001 h o) h = pv at *
          have hn2 := HN.out
          go_wp2
          exact ⟨⟨x + 1, _, _, _, by rw [HRW.out]; omega, by go_num, HR5.out⟩, by simp [intOf]; omega⟩
        · obtain rfl : x = row.length := by omega
          have HNX := Lib.hid (hF.next hlt (by rw [HRW.out]))
          clear hF
          go_wp2
          exact ⟨⟨j + 1, _, _, _, by omega, by go_num, HNX.out⟩, by simp [intOf]; omega⟩
    · obtain rfl : j = g.2.length := by omega
      obtain ⟨A3, c3, rfl⟩ := own_slice hF.cn.hN
      have hgr := fun {w' : World} => hF.gr (Nat.le_trans HSF.out (by unfold maxLen; omega)) (w' := w')
      have hcO := hF.cn.hO.cell
      have hlO := hF.cn.hO.lt
      have hRC := HRC.out.up hF.cn.up
      have hcR := hRC.cell
      have hfR := hRC.frozen
      have hlR := hRC.lt
      have HU := Lib.hid (U2.out.trans hF.cn.up)
      have HGR : Hid (∀ {w' : World}, (∀ b t cs, t ≠ 30 → Blk wo b t cs → Blk w' b t cs) → GrV w' (.agg #[.slice A3 o.length c3, .slice (some ⟨GS, 0, none⟩) g.2.length g.2.length]) (canon g)) := Lib.hid hgr
      have hsz := U2.out.size
      clear hF hgr
      go_wp2_with (fail)
      have HBX : Blk ((wo.setCell ⟨w.heap.size + 1, 0, none⟩ (.slice A3 o.length c3)).setCell ⟨w.heap.size + 1, 1, none⟩ (.slice (some ⟨GS, 0, none⟩) g.2.length g.2.length)) (w.heap.size + 1) 30 #[.slice A3 o.length c3, .slice (some ⟨GS, 0, none⟩) g.2.length g.2.length] := by
        have := (hRC.set_ 0 (Value.slice A3 o.length c3)).set_ 1 (Value.slice (some ⟨GS, 0, none⟩) g.2.length g.2.length)
        simpa using this
      refine bodyPost_ret (results_cell_row rfl _ _ (w.heap.size + 1) 30 _ _ _ rfl HBX Tryz.underlying30 rfl (by kernel_rfl)) rfl ?_
      refine ⟨_, rfl, HGR.out (fun b t cs ht hb => ?_), (HU.out.setCell (by simp) _).setCell (by simp) _⟩
      have h1 := hb.far (p := ⟨w.heap.size + 1, 0, none⟩) (hb.ne_type hRC ht) (.slice A3 o.length c3)
      exact h1.far (p := ⟨w.heap.size + 1, 1, none⟩) (hb.ne_type hRC ht) _

end Go.Proofs.YtanhhkdoejnpiaaGreat.G
