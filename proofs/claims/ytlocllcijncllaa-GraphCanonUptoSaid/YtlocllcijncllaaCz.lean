/- What is reached, in order (graph.Canon): contract. -/
import Derived.Test.YtlocllcijncllaaCy
namespace Go.Proofs.Ytlocllcijncllaa
open Go.Joins Go.ChangeShapes Go.WideShapes Go.ChangeAt Go.RowKit Go.Deep Go.Shelf Go.Maps
set_option linter.unusedVariables false
set_option linter.unusedSimpArgs false

def Ro1 (g : Gr) (w0 : World) (GB PB PL OB RB c : Nat) (A : Option Addr) (vs0 : Value) (GS BS M : Nat) (us2 : List Value) (i : Value) (wr : World) : Prop :=
  ∃ j vn us o, j ≤ g.2.length ∧ i = .int .i64 (j : Nat) ∧ Rx g w0 GB PB PL OB RB c A vs0 GS BS M us2 j 0 vn us o wr
def Ro2 (g : Gr) (w0 : World) (GB PB PL OB RB c : Nat) (A : Option Addr) (vs0 : Value) (GS BS M : Nat) (us2 : List Value) (j : Nat) (i : Value) (wr : World) : Prop :=
  ∃ x vn us o, x ≤ (g.2.getD j []).length ∧ i = .int .i64 (x : Nat) ∧ Rx g w0 GB PB PL OB RB c A vs0 GS BS M us2 j x vn us o wr
theorem Rx.rowv {g : Gr} {w0 wr : World} {GB PB PL OB RB c GS BS M j i : Nat} {A : Option Addr} {vs0 vn : Value} {us us2 : List Value} {o : List Int} (h : Rx g w0 GB PB PL OB RB c A vs0 GS BS M us2 j i vn us o wr) (hj : j < g.2.length) :
    ∃ A', us2[j]? = some (.slice A' (g.2.getD j []).length (g.2.getD j []).length) ∧ ((g.2.getD j []).length ≠ 0 → A' = some ⟨BS, off (Lx o g.2 j i) j, none⟩) := by
  have hju : j < us2.length := by rw [h.ct.len, Lx_len]; exact hj
  obtain ⟨A', e, e2, e3⟩ := h.ct.row j _ _ (List.getElem?_eq_getElem hju) (Lx_row o g.2 i hj)
  rw [hrow_len] at e
  refine ⟨A', by rw [List.getElem?_eq_getElem hju, e], fun q => e3 (fun q2 => q ?_)⟩
  have := hrow_len o (g.2.getD j []) i
  rw [q2] at this
  exact this.symm
set_option maxRecDepth 100000 in
set_option maxHeartbeats 4000000 in
theorem canon_any (v : Value) (g : Gr) (w : World) (hg : GrV w v g) (hR : Rg g) (hn : g.1.length ≤ 100) (hF : FitG g) : Calls Try.prog 20 #[v] w fun e w' => ∃ u, e = .returned u ∧ GrV w' u (canon g) ∧ Up w w' := by
  obtain ⟨Ag, cg, Bg, dg, rfl, m1, m2⟩ := hg.form
  obtain ⟨va, vb, e, hns, hrw⟩ := hg
  simp only [Value.agg.injEq, Array.mk.injEq, List.cons.injEq, and_true] at e
  obtain ⟨rfl, rfl⟩ := e
  have HCP := Lib.hid (fun w' (k : Up w w') => copied_any (.agg #[.slice none 0 0, .slice Bg g.2.length dg]) ([], g.2) w' ⟨_, _, rfl, Ns.nil _, hrw.up k⟩ ⟨by simp, by simp, hF.s, hF.h⟩)
  have HNS := Lib.hid hns
  have HR := Lib.hid hR
  have HN := Lib.hid hn
  have HSF := Lib.hid hF.s
  have HSH := Lib.hid hF.h
  have hmk := make_wordsN g.1.length (by omega)
  have U2 := Lib.hid (((Up.refl w).alloc (.cells #[.slice Ag g.1.length cg, .slice Bg g.2.length dg] 25)).alloc (.cells #[.slice none 0 0, .slice none 0 0] 25))
  have bG := (Blk.new w 25 #[.slice Ag g.1.length cg, .slice Bg g.2.length dg]).alloc (.cells #[.slice none 0 0, .slice none 0 0] 25)
  have bO := Blk.new' (w.alloc (.cells #[.slice Ag g.1.length cg, .slice Bg g.2.length dg] 25)) (g := w.heap.size + 1) (by simp) 25 #[.slice none 0 0, .slice none 0 0]
  clear hns hrw hR hF
  go_enter Try.func20, Try.ntmps20
  go_wp2_with (fail)
  refine (HCP.out _ U2.out).mono ?_
  rintro e w1 ⟨vn, vs, us, us2, BF, GS, BS, rfl, hO, hU1⟩
  have bG1 := bG.up hU1
  have bO1 := bO.up hU1
  have hcG1 := bG1.cell
  have hlG1 := bG1.lt
  obtain ⟨A0, c0, rfl⟩ := own_slice hO.nodes
  have hv := hO.val
  subst hv
  clear HCP bG
  go_wp2_with (fail)
  have hus0 : us = [] := List.eq_nil_of_length_eq_zero (by have := hO.flds.len; simpa using this)
  have kw : Up w1 ((((w1.alloc (.cells #[.slice A0 0 c0, .slice (some ⟨GS, 0, none⟩) g.2.length g.2.length] 25)).alloc (.cells (Array.replicate g.1.length (Value.int .u64 0)) 26)).alloc (.cells #[.slice (some ⟨w1.heap.size + 1, 0, none⟩) g.1.length g.1.length] 60)).alloc (.cells #[rov w.heap.size (w1.heap.size + 1 + 1) w1.heap.size (w1.heap.size + 1 + 1 + 1)] 83)) := ((((Up.refl w1).alloc _).alloc _).alloc _).alloc _
  have hX : Gx ((w.alloc (.cells #[.slice Ag g.1.length cg, .slice Bg g.2.length dg] 25)).alloc (.cells #[.slice none 0 0, .slice none 0 0] 25)) w.heap.size (w1.heap.size + 1) w1.heap.size := ⟨Nat.le_trans hU1.size (by omega), hU1.size, by have := hU1.size; simp at this; omega⟩
  have hst : Rx g ((w.alloc (.cells #[.slice Ag g.1.length cg, .slice Bg g.2.length dg] 25)).alloc (.cells #[.slice none 0 0, .slice none 0 0] 25)) w.heap.size (w1.heap.size + 1 + 1) (w1.heap.size + 1) w1.heap.size (w1.heap.size + 1 + 1 + 1) cg Ag (.slice Bg g.2.length dg) GS BS (w1.heap.size + 1 + 1 + 1 + 1) us2 0 0 (.slice A0 0 c0) [] []
      ((((w1.alloc (.cells #[.slice A0 0 c0, .slice (some ⟨GS, 0, none⟩) g.2.length g.2.length] 25)).alloc (.cells (Array.replicate g.1.length (Value.int .u64 0)) 26)).alloc (.cells #[.slice (some ⟨w1.heap.size + 1, 0, none⟩) g.1.length g.1.length] 60)).alloc (.cells #[rov w.heap.size (w1.heap.size + 1 + 1) w1.heap.size (w1.heap.size + 1 + 1 + 1)] 83)) := by
    refine ⟨by rw [rup_0]; rfl, ⟨bG1.up kw, (Blk.new' _ (by simp) _ _).alloc _, ?_, (((Blk.new w1 _ _).alloc _).alloc _).alloc _, Blk.new' _ (by simp) _ _, ?_, rfl, ⟨by simp, fun m hm => (by cases hm)⟩, hU1.trans kw⟩, hO.grid.up kw, ?_, fun k u m h1 h2 => (by simp at h1), by simp, by omega, by omega⟩
    · rw [plc_nil, List.toArray_replicate]
      exact ((Blk.new' _ (by simp) _ _).alloc _).alloc _
    · have := own_up hO.nodes kw
      rw [hus0] at this
      exact this
    · rw [Lx_0]; exact hO.rows.up kw
  have HST := Lib.hid hst
  have HX := Lib.hid (reach_any g _ w.heap.size (w1.heap.size + 1 + 1) (w1.heap.size + 1) w1.heap.size (w1.heap.size + 1 + 1 + 1) cg Ag (.slice Bg g.2.length dg) (.slice (some ⟨GS, 0, none⟩) g.2.length g.2.length) hX (HNS.out.up U2.out) HR.out (by omega) 101)
  have HRC := Lib.hid bO
  have HHN := Lib.hid HR.out.hn
  clear hst hX kw hus0 bG1 bO1 hcG1 hlG1 hO hU1 hmk HNS HR
  generalize hw0 : (w.alloc (.cells #[.slice Ag g.1.length cg, .slice Bg g.2.length dg] 25)).alloc (.cells #[.slice none 0 0, .slice none 0 0] 25) = w0 at HST HX HRC U2
  clear hw0
  generalize ((((w1.alloc (.cells #[.slice A0 0 c0, .slice (some ⟨GS, 0, none⟩) g.2.length g.2.length] 25)).alloc (.cells (Array.replicate g.1.length (Value.int .u64 0)) 26)).alloc (.cells #[.slice (some ⟨w1.heap.size + 1, 0, none⟩) g.1.length g.1.length] 60)).alloc (.cells #[rov w.heap.size (w1.heap.size + 1 + 1) w1.heap.size (w1.heap.size + 1 + 1 + 1)] 83)) = w3 at *
  go_loopw [22] (fun i wr => Ro1 g w0 w.heap.size (w1.heap.size + 1 + 1) (w1.heap.size + 1) w1.heap.size (w1.heap.size + 1 + 1 + 1) cg Ag (.slice Bg g.2.length dg) GS BS (w1.heap.size + 1 + 1 + 1 + 1) us2 i wr) (fun i _ => g.2.length - (intOf i).toNat)
  case atStart => exact ⟨0, _, _, _, Nat.zero_le _, rfl, HST.out⟩
  case round =>
    rename World => wo
    obtain ⟨j, vn, us, o, hj, rfl, hF⟩ := hrel
    by_cases hlt : j < g.2.length
    · obtain ⟨A', hu, hA⟩ := hF.rowv hlt
      have hcG : wo.cell? ⟨GS, j, none⟩ = some (.slice A' (g.2.getD j []).length (g.2.getD j []).length) := by rw [hF.grid.cell, List.getElem?_toArray]; exact hu
      have hlG := hF.grid.lt
      have HF := Lib.hid hF
      have HU := Lib.hid hu
      have hlen : (g.2.getD j []).length ≤ 9223372036854775807 := by
        have h1 := flat_one g.2 hlt
        have h2 := flat_le g.2 (j + 1)
        have h3 := HSH.out
        omega
      have HRN := Lib.hid (HHN.out (g.2.getD j []) (by simp [List.getD, List.getElem?_eq_getElem hlt]))
      clear hF hu hA
      generalize hrow_ : g.2.getD j [] = row at *
      have HRW := Lib.hid hrow_
      clear hrow_
      go_wp2_with (fail)
      go_loopw [28] (fun i wr => Ro2 g w0 w.heap.size (w1.heap.size + 1 + 1) (w1.heap.size + 1) w1.heap.size (w1.heap.size + 1 + 1 + 1) cg Ag (.slice Bg g.2.length dg) GS BS (w1.heap.size + 1 + 1 + 1 + 1) us2 j i wr) (fun i _ => row.length - (intOf i).toNat)
      case atStart => exact ⟨0, _, _, _, Nat.zero_le _, rfl, HF.out⟩
      case round =>
        rename World => wr
        obtain ⟨x, vn, us, o, hx, rfl, hF⟩ := hrel
        rw [HRW.out] at hx
        by_cases hlx : x < row.length
        · have hi : x < (g.2.getD j []).length := by rw [HRW.out]; exact hlx
          obtain ⟨F, rfl, hFo⟩ : ∃ F, A' = some ⟨BS, F, none⟩ ∧ off (Lx o g.2 j x) j = F := by
            obtain ⟨A2, q1, q2⟩ := hF.rowv hlt
            have q3 := q2 (by omega)
            rw [HU.out, HRW.out] at q1
            cases q1
            exact ⟨_, q3, rfl⟩
          obtain ⟨h, hh⟩ : ∃ h, (g.2.getD j []).getD x 0 = h := ⟨_, rfl⟩
          have hb : 0 ≤ h ∧ h ≤ g.1.length := HRN.out h (by rw [← hh, HRW.out]; exact getD_mem 0 hlx)
          obtain ⟨hBS, cs, hcs, hsz, hch⟩ := hF.blkB hlt hi
          rw [hFo, hh] at hch
          rw [hFo] at hsz
          have hcc : wr.cell? ⟨BS, F + x, none⟩ = some (.int .i64 h) := (hcs.cell _).trans hch
          have hlB := hcs.lt
          have hcR := hF.cn.hR.cell
          have hlR := hF.cn.hR.lt
          have HCL := Lib.hid (HX.out h _ _ _ _ hF.cn (by omega))
          have HFx := Lib.hid hF
          have HFO := Lib.hid hFo
          have HHH := Lib.hid hh
          clear hF hFo hh hcs hch hsz hcG
          go_wp2_with (fail)
          refine HCL.out.mono ?_
          rintro e w5 hpost
          obtain ⟨rfl, ⟨cs5, hB5, hsz⟩, hG5, hle, vn2, us', hR5⟩ := HFx.out.step HN.out hlt hi HHH.out hpost
          rw [HFO.out] at hR5 hsz
          have hge := (pl_bd (vis g 101 h o) h).1
          have HR5 := Lib.hid hR5
          have hcB5 := (hB5.cell (F + x)).trans (Array.getElem?_eq_getElem hsz)
          have hfB5 := hB5.frozen
          have hlB5 := hB5.lt
          clear hpost hR5 hG5 hB5 HCL
          generalize pl (vis g 101 h o) h = pv at *
          have hn2 := HN.out
          go_wp2
          exact ⟨⟨x + 1, _, _, _, by rw [HRW.out]; omega, by go_num, HR5.out⟩, by simp [intOf]; omega⟩
        · obtain rfl : x = row.length := by omega
          have HNX := Lib.hid (hF.next hlt (by rw [HRW.out]))
          clear hF
          go_wp2
          exact ⟨⟨j + 1, _, _, _, by omega, by go_num, HNX.out⟩, by simp [intOf]; omega⟩
    · obtain rfl : j = g.2.length := by omega
      obtain ⟨A3, c3, rfl⟩ := own_slice hF.cn.hN
      have hgr := fun {w' : World} => hF.gr (Nat.le_trans HSF.out (by unfold maxLen; omega)) (w' := w')
      have hcO := hF.cn.hO.cell
      have hlO := hF.cn.hO.lt
      have hRC := HRC.out.up hF.cn.up
      have hcR := hRC.cell
      have hfR := hRC.frozen
      have hlR := hRC.lt
      have HU := Lib.hid (U2.out.trans hF.cn.up)
      have HGR : Hid (∀ {w' : World}, (∀ b t cs, t ≠ 25 → Blk wo b t cs → Blk w' b t cs) → GrV w' (.agg #[.slice A3 o.length c3, .slice (some ⟨GS, 0, none⟩) g.2.length g.2.length]) (canon g)) := Lib.hid hgr
      have hsz := U2.out.size
      clear hF hgr
      go_wp2_with (fail)
      have HBX : Blk ((wo.setCell ⟨w.heap.size + 1, 0, none⟩ (.slice A3 o.length c3)).setCell ⟨w.heap.size + 1, 1, none⟩ (.slice (some ⟨GS, 0, none⟩) g.2.length g.2.length)) (w.heap.size + 1) 25 #[.slice A3 o.length c3, .slice (some ⟨GS, 0, none⟩) g.2.length g.2.length] := by
        have := (hRC.set_ 0 (Value.slice A3 o.length c3)).set_ 1 (Value.slice (some ⟨GS, 0, none⟩) g.2.length g.2.length)
        simpa using this
      refine bodyPost_ret (results_cell_row rfl _ _ (w.heap.size + 1) 25 _ _ _ rfl HBX Try.underlying25 rfl (by kernel_rfl)) rfl ?_
      refine ⟨_, rfl, HGR.out (fun b t cs ht hb => ?_), (HU.out.setCell (by simp) _).setCell (by simp) _⟩
      have h1 := hb.far (p := ⟨w.heap.size + 1, 0, none⟩) (hb.ne_type hRC ht) (.slice A3 o.length c3)
      exact h1.far (p := ⟨w.heap.size + 1, 1, none⟩) (hb.ne_type hRC ht) _
end Go.Proofs.Ytlocllcijncllaa
