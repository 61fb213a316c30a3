/- graph.Right: contract. -/
import Derived.Test.YtlocllcijncllaaPe
namespace Go.Proofs.Ytlocllcijncllaa
open Go.Joins Go.ChangeShapes Go.WideShapes Go.ChangeAt Go.RowKit Go.Deep Go.Shelf Go.Maps
set_option linter.unusedVariables false
set_option linter.unusedSimpArgs false

theorem leads_any (B n c : Nat) (A : Option Addr) (vb : Value) (v : Int) (w : World) (hB : Blk w B 25 #[.slice A n c, vb]) (hn : n ≤ 9223372036854775807) :
    Calls Try.prog 23 #[.int .u64 v, .pointer (some ⟨B, 0, none⟩)] w fun e w' => e = .returned (.bool (decide (v ≤ (n : Int)))) ∧ w' = w := by
  have hc := hB.cell
  have hl := hB.lt
  clear hB
  go_enter Try.func23, Try.ntmps23
  go_wp2
  go_ret
  exact ⟨rfl, rfl⟩
/-- All fields up to a place lead to nodes, where they are pointers. -/
def Fup (n : Nat) (nd : Nd) (y : Nat) : Prop := ∀ i : Nat, i < y → isP nd (i : Int) = true → nd.2.getD i 0 ≤ (n : Int)
theorem ndB_all {n : Nat} {nd : Nd} (h1 : okHd nd.1 = true) (h2 : (nd.2.length : Int) = nd.1.2.1) : ndB n nd = true ↔ Fup n nd nd.2.length := by
  unfold ndB
  rw [h1, decide_eq_true h2, Bool.true_and, Bool.true_and, List.all_eq_true]
  have e : nd.1.2.1.toNat = nd.2.length := by omega
  constructor
  · intro h i hi hp
    have := h i (List.mem_filter.2 ⟨List.mem_range.2 (by omega), hp⟩)
    simpa using this
  · intro h i hi
    obtain ⟨a, b⟩ := List.mem_filter.1 hi
    have a := List.mem_range.1 a
    simpa using h i (by omega) b
def Q1 (w : World) (va vb : Value) (g : Gr) (n : Nat) (i : Value) (wr : World) : Prop := ∃ x : Nat, x ≤ n ∧ i = .int .i64 x ∧ (g.1.take x).all (ndB n) = true ∧ Blk wr w.heap.size 25 #[va, vb] ∧ Up w wr
def Q2 (w w5 : World) (va vb : Value) (nd : Nd) (u : Value) (n N : Nat) (i : Value) (wr : World) : Prop := ∃ y : Nat, y ≤ nd.2.length ∧ i = .int .i64 y ∧ Fup n nd y ∧ Blk wr w.heap.size 25 #[va, vb] ∧ Blk wr N 62 #[.int .i64 nd.1.1, .int .i64 nd.1.2.1, .int .u64 nd.1.2.2, u] ∧ Up w wr ∧ Up w5 wr
set_option maxRecDepth 100000 in
set_option maxHeartbeats 8000000 in
theorem right_g (v : Value) (g : Gr) (w : World) (hg : GrV w v g) (hM : ∀ n ∈ g.1, 0 ≤ n.1.2.2 ∧ n.1.2.2 ≤ 18446744073709551615) (hI : ∀ row ∈ g.2, ∀ h ∈ row, I64 h) : Calls Try.prog 12 #[v] w fun e w' => e = .returned (.bool (rgB g)) ∧ Up w w' := by
  obtain ⟨ga, gb, rfl, hga, hgb⟩ := hg
  have HGA := Lib.hid hga
  have HGB := Lib.hid hgb
  have HM := Lib.hid hM
  have HI := Lib.hid hI
  obtain ⟨A1, c1, rfl, m1⟩ := hga.slice
  obtain ⟨A2, c2, rfl, m2⟩ := hgb.slice
  unfold maxLen at m1 m2
  generalize hnn : g.1.length = n at *
  generalize hss : g.2.length = s at *
  have LN := Lib.hid hnn
  have LS := Lib.hid hss
  generalize hB : rgB g = bo
  have HB : Hid ((g.1.all (ndB n) && g.2.all (rowB n)) = bo) := Lib.hid (by rw [← hB]; unfold rgB; rw [hnn])
  have HL := Lib.hid (fun (v : Int) (wr : World) (b : Blk wr w.heap.size 25 #[.slice A1 n c1, .slice A2 s c2]) => leads_any w.heap.size n c1 A1 (.slice A2 s c2) v wr b m1)
  clear hga hgb hnn hss hB hM hI
  go_enter Try.func12, Try.ntmps12
  go_wp2
  go_loopw [16] (fun i wr => Q1 w (.slice A1 n c1) (.slice A2 s c2) g n i wr) (fun i _ => n - (intOf i).toNat)
  case atStart => exact ⟨0, Nat.zero_le _, rfl, rfl, Blk.new w _ _, (Up.refl w).alloc _⟩
  case round =>
    obtain ⟨x, hx, rfl, ht, b1, hU⟩ := hrel
    have HT := Lib.hid ht
    have q1 := b1.cell
    have l1 := b1.lt
    have B1 := Lib.hid b1
    have HU := Lib.hid hU
    clear ht b1
    by_cases hlt : x < n
    · obtain ⟨p, u1, rfl, ⟨a0, a1, a2, a3⟩, hs1⟩ := (HGA.out.up hU).at_ hlt
      have hgx : x < g.1.length := by rw [LN.out]; exact hlt
      have hmn := HM.out (g.1.getD x nd0) (by simp [List.getD, List.getElem?_eq_getElem hgx])
      have HAT := Lib.hid (all_take (p := ndB n) nd0 hgx)
      have HAN := Lib.hid (fun k => all_no (p := ndB n) nd0 hgx k)
      have HS1 := Lib.hid hs1
      have hmx := hs1.max
      unfold maxLen at hmx
      obtain ⟨Au, cu, rfl⟩ := hs1.slice
      have ap := lt_of_cell a0
      clear hU hgx hs1
      generalize hnd : g.1.getD x nd0 = nd at *
      clear hnd
      obtain ⟨⟨t, l, m⟩, f⟩ := nd
      simp only [] at a0 a1 a2 a3 hmn hmx
      have hr := Lib.hid (fun w => object_any t l m w)
      rename World => W5
      have HFL : Hid (f.length = f.length) := Lib.hid rfl
      generalize hlf : f.length = lf at *
      have HLF := Lib.hid hlf
      clear hlf HFL
      have HMN := Lib.hid hmn
      clear hmn
      by_cases hok : okH t l m = true
      · have hl := okH_len hok
        rw [hok] at hr
        have HOK : Hid (okHd (t, l, m) = true) := Lib.hid hok
        by_cases hc3 : (lf : Int) = l
        · have hb3 : ((lf : Int) != l) = false := bne_eq_false_iff_eq.2 hc3
          have HND := Lib.hid (ndB_all (n := n) (nd := ((t, l, m), f)) hok (by show (f.length : Int) = l; rw [HLF.out]; exact hc3))
          have hlf16 : lf ≤ 16 := by omega
          have hps := Lib.hid (fun (y : Nat) (hy : y < lf) w => ptr_any t l m y HMN.out.1 HMN.out.2 (by omega) w)
          clear hc3
          go_wp2_with (fail)
          refine (hr.out _).mono ?_
          rintro e w1 ⟨rfl, h1⟩
          have bN := (Blk.new W5 62 #[.int .i64 t, .int .i64 l, .int .u64 m, .slice Au lf cu]).up h1
          have qN := bN.cell
          have lN := bN.lt
          have U1 := ((Up.refl W5).alloc (.cells #[.int .i64 t, .int .i64 l, .int .u64 m, .slice Au lf cu] 62)).trans h1
          have BN := Lib.hid bN
          have HU1 := Lib.hid U1
          have HUB := Lib.hid (HU.out.trans U1)
          have BA1 := Lib.hid (B1.out.up U1)
          generalize hN : W5.heap.size = N at *
          clear bN h1 hr U1 hN
          go_wp2_with (fail)
          go_loopw [36] (fun i wr => Q2 w w1 (.slice (some p) n c1) (.slice A2 s c2) ((t, l, m), f) (.slice Au lf cu) n N i wr) (fun i _ => lf - (intOf i).toNat)
          case atStart => exact ⟨0, Nat.zero_le _, rfl, fun i hi => absurd hi (by omega), BA1.out, BN.out, HUB.out, Up.refl _⟩
          case round =>
            rename World => w6
            clear q1 l1 qN lN
            obtain ⟨y, hy, rfl, hta, r1, r2, hU6, hU26⟩ := hrel
            change y ≤ f.length at hy
            rw [HLF.out] at hy
            have q1 := r1.cell
            have l1 := r1.lt
            have q2 := r2.cell
            have l2 := r2.lt
            have R1_ := Lib.hid r1
            have R2_ := Lib.hid r2
            have HU6 := Lib.hid hU6
            have HU26 := Lib.hid hU26
            have HTA := Lib.hid hta
            clear r1 r2 hta
            by_cases hyl : y < lf
            · obtain ⟨pf, rfl, hcf⟩ := (HS1.out.up (HU1.out.trans HU26.out)).at_ (x := y) hyl
              change w6.cell? (pf.add y) = some (.int .u64 (f.getD y 0)) at hcf
              have hpt := Lib.hid (hps.out y hyl)
              have HSTEP : Hid ((ptb l m y = true → f.getD y 0 ≤ (n : Int)) → Fup n ((t, l, m), f) (y + 1)) := Lib.hid (fun k i hi hp => by
                by_cases e : i < y
                · exact HTA.out i e hp
                · obtain rfl : i = y := by omega
                  exact k hp)
              have HSNO : Hid (ptb l m y = true → ¬ f.getD y 0 ≤ (n : Int) → g.1.all (ndB n) = false) := Lib.hid (fun h1 h2 => HAN.out (by
                cases e : ndB n ((t, l, m), f)
                · rfl
                · exact absurd (HND.out.1 e y (by show y < f.length; rw [HLF.out]; exact hyl) h1) h2))
              clear hU6 hU26 hps
              generalize f.getD y 0 = fv at *
              by_cases hp : ptb l m y = true
              · rw [hp] at hpt
                by_cases hle : fv ≤ (n : Int)
                · have hld := Lib.hid (HL.out fv)
                  rw [decide_eq_true hle] at hld
                  have HST := Lib.hid (HSTEP.out (fun _ => hle))
                  clear hle hp HSTEP HSNO HL
                  go_wp2_with (fail)
                  refine (hpt.out _).mono ?_
                  rintro e w7 ⟨rfl, h7⟩
                  have S1 := R1_.out.up h7
                  have S2 := R2_.out.up h7
                  have q1 := S1.cell
                  have l1 := S1.lt
                  have q2 := S2.cell
                  have l2 := S2.lt
                  go_wp2_with (fail)
                  refine (hld.out _ S1).mono ?_
                  rintro e w8 ⟨rfl, rfl⟩
                  go_wp2
                  refine ⟨⟨y + 1, by show y + 1 ≤ f.length; rw [HLF.out]; omega, by go_num, HST.out, S1, S2, HU6.out.trans h7, HU26.out.trans h7⟩, by simp [intOf]; omega⟩
                · have hld := Lib.hid (HL.out fv)
                  rw [decide_eq_false hle] at hld
                  have HNO := Lib.hid (HSNO.out hp hle)
                  clear hle hp HSTEP HSNO HL
                  go_wp2_with (fail)
                  refine (hpt.out _).mono ?_
                  rintro e w7 ⟨rfl, h7⟩
                  have S1 := R1_.out.up h7
                  have S2 := R2_.out.up h7
                  have q1 := S1.cell
                  have l1 := S1.lt
                  have q2 := S2.cell
                  have l2 := S2.lt
                  go_wp2_with (fail)
                  refine (hld.out _ S1).mono ?_
                  rintro e w8 ⟨rfl, rfl⟩
                  go_wp2
                  go_ret
                  exact ⟨show Ending.returned (.bool false) = .returned (.bool bo) from by rw [← HB.out, HNO.out]; rfl, HU6.out.trans h7⟩
              · have hp : ptb l m y = false := by simpa using hp
                have HST := Lib.hid (HSTEP.out (fun k => by rw [hp] at k; cases k))
                rw [hp] at hpt
                clear hp HSTEP HSNO HL
                go_wp2_with (fail)
                refine (hpt.out _).mono ?_
                rintro e w7 ⟨rfl, h7⟩
                have S1 := R1_.out.up h7
                have S2 := R2_.out.up h7
                have q1 := S1.cell
                have l1 := S1.lt
                have q2 := S2.cell
                have l2 := S2.lt
                go_wp2
                refine ⟨⟨y + 1, by show y + 1 ≤ f.length; rw [HLF.out]; omega, by go_num, HST.out, S1, S2, HU6.out.trans h7, HU26.out.trans h7⟩, by simp [intOf]; omega⟩
            · obtain rfl : lf = y := by omega
              have HYES : Hid (ndB n ((t, l, m), f) = true) := Lib.hid (HND.out.2 (by show Fup n _ f.length; rw [HLF.out]; exact HTA.out))
              clear hU6 hU26
              go_wp2
              refine ⟨⟨x + 1, by omega, by go_num, by rw [HAT.out, HT.out, HYES.out]; rfl, R1_.out, HU6.out⟩, by simp [intOf]; omega⟩
        · have hb3 : ((lf : Int) != l) = true := bne_iff_ne.2 hc3
          have HNO := Lib.hid (HAN.out (nd_no (.inr (.inr (by show (f.length : Int) ≠ l; rw [HLF.out]; exact hc3)))))
          go_wp2_with (fail)
          refine (hr.out _).mono ?_
          rintro e w1 ⟨rfl, h1⟩
          have bN := (Blk.new W5 62 #[.int .i64 t, .int .i64 l, .int .u64 m, .slice Au lf cu]).up h1
          have qN := bN.cell
          have lN := bN.lt
          have HU1 := Lib.hid ((HU.out.alloc _).trans h1)
          clear bN h1 hr
          go_wp2
          go_ret
          exact ⟨show Ending.returned (.bool false) = .returned (.bool bo) from by rw [← HB.out, HNO.out]; rfl, HU1.out⟩
      · have hok : okH t l m = false := by simpa using hok
        have HNO : Hid (g.1.all (ndB n) = false) := Lib.hid (HAN.out (by
          show (okHd (t, l, m) && _) = false
          rw [show okHd (t, l, m) = false from hok]
          rfl))
        rw [hok] at hr
        go_wp2_with (fail)
        refine (hr.out _).mono ?_
        rintro e w1 ⟨rfl, h1⟩
        have HU1 := Lib.hid ((HU.out.alloc _).trans h1)
        clear h1 hr
        go_wp2
        go_ret
        exact ⟨show Ending.returned (.bool false) = .returned (.bool bo) from by rw [← HB.out, HNO.out]; rfl, HU1.out⟩
    · obtain rfl : n = x := by omega
      have H1 : Hid (g.1.all (ndB n) = true) := Lib.hid (all_end LN.out HT.out)
      clear hU
      go_wp2
      go_loopw [56] (fun i wr => R3 w (.slice A1 n c1) (.slice A2 s c2) g n s i wr) (fun i _ => s - (intOf i).toNat)
      case atStart => exact ⟨0, Nat.zero_le _, rfl, rfl, B1.out, HU.out⟩
      case round =>
        clear q1 l1 B1 HU HT
        rename World => w5
        obtain ⟨x, hx, rfl, ht, b1, hU⟩ := hrel
        have HT := Lib.hid ht
        have q1 := b1.cell
        have l1 := b1.lt
        have B1 := Lib.hid b1
        have HU := Lib.hid hU
        clear ht b1
        by_cases hlt : x < s
        · have hgx : x < g.2.length := by rw [LS.out]; exact hlt
          have HAT := Lib.hid (all_take (p := rowB n) [] hgx)
          have HAN := Lib.hid (fun k => all_no (p := rowB n) [] hgx k)
          have HRI := Lib.hid (HI.out (g.2.getD x []) (by simp [List.getD, List.getElem?_eq_getElem hgx]))
          have HROW : Hid (∀ w', Up w w' → ∃ p A c, A2 = some p ∧ w'.cell? (p.add x) = some (.slice A (g.2.getD x []).length c) ∧ Sl .i64 w' (.slice A (g.2.getD x []).length c) (g.2.getD x [])) := Lib.hid (fun w' k => by
            obtain ⟨p, u1, e, a0, hs1⟩ := (HGB.out.up k).at_ hlt
            obtain ⟨A, c, rfl⟩ := hs1.slice
            exact ⟨p, A, c, e, a0, hs1⟩)
          obtain ⟨p, A, c, rfl, a0, hs1⟩ := HROW.out w5 hU
          have hrm := hs1.max
          unfold maxLen at hrm
          have HS1 := Lib.hid hs1
          have HU5 := Lib.hid hU
          clear hU hgx hs1 HROW
          generalize g.2.getD x [] = row at *
          generalize hrl : row.length = rl at *
          have HRL := Lib.hid hrl
          clear hrl
          go_wp2_with (fail)
          go_loopw [62] (fun i wr => R4 w (.slice A1 n c1) (.slice (some p) s c2) row n i wr ∧ Up w5 wr) (fun i _ => rl - (intOf i).toNat)
          case atStart => exact ⟨⟨0, Nat.zero_le _, rfl, rfl, B1.out, HU.out⟩, Up.refl _⟩
          case round =>
            clear q1 l1 B1 HU
            rename World => w6
            obtain ⟨⟨y, hy, rfl, hta, b1, hU⟩, hU56⟩ := hrel
            rw [HRL.out] at hy
            have HTA := Lib.hid hta
            have q1 := b1.cell
            have l1 := b1.lt
            have B1 := Lib.hid b1
            have HU := Lib.hid hU
            have HU56 := Lib.hid hU56
            clear hta b1 hU
            by_cases hyl : y < rl
            · obtain ⟨ph, rfl, hch⟩ := (HS1.out.up hU56).at_ hyl
              have hi := HRI.out (row.getD y 0) (by have h2 : y < row.length := by rw [HRL.out]; exact hyl
                                                    simp [List.getD, List.getElem?_eq_getElem h2])
              have HSTEP := Lib.hid (all_take (p := fun h => decide (0 ≤ h) && decide (h ≤ (n : Int))) 0 (x := y) (L := row) (by rw [HRL.out]; exact hyl))
              have HSNO := Lib.hid (fun k => all_no (p := fun h => decide (0 ≤ h) && decide (h ≤ (n : Int))) 0 (x := y) (L := row) (by rw [HRL.out]; exact hyl) k)
              clear hU56
              generalize row.getD y 0 = hv at *
              obtain ⟨i1, i2⟩ := hi
              have hw : IntKind.u64.wrap hv = if hv < 0 then hv + 18446744073709551616 else hv := by
                rw [IntKind.wrap_u64]; split <;> omega
              have HLE : Hid (decide (IntKind.u64.wrap hv ≤ (n : Int)) = (decide (0 ≤ hv) && decide (hv ≤ (n : Int)))) := Lib.hid (by
                rw [hw]
                split
                · rw [decide_eq_false (by omega : ¬ (0 ≤ hv)), decide_eq_false (by omega)]; rfl
                · rw [decide_eq_true (by omega : 0 ≤ hv), Bool.true_and])
              have hld := Lib.hid (HL.out (IntKind.u64.wrap hv))
              clear hw
              generalize hq : (decide (0 ≤ hv) && decide (hv ≤ (n : Int))) = bq at *
              rw [HLE.out] at hld
              cases bq with
              | true =>
                have HST := Lib.hid (HSTEP.out.trans (by rw [Bool.and_true]))
                clear hq HSTEP HSNO HL HLE
                go_wp2_with (fail)
                refine (hld.out _ B1.out).mono ?_
                rintro e w8 ⟨rfl, rfl⟩
                go_wp2
                refine ⟨⟨⟨y + 1, by rw [HRL.out]; omega, by go_num, by rw [HST.out]; exact HTA.out, B1.out, HU.out⟩, HU56.out⟩, by simp [intOf]; omega⟩
              | false =>
                have HNO : Hid (g.2.all (rowB n) = false) := Lib.hid (HAN.out (HSNO.out rfl))
                clear hq HSTEP HSNO HL HLE
                go_wp2_with (fail)
                refine (hld.out _ B1.out).mono ?_
                rintro e w8 ⟨rfl, rfl⟩
                go_wp2
                go_ret
                exact ⟨show Ending.returned (.bool false) = .returned (.bool bo) from by rw [← HB.out, HNO.out, Bool.and_false], HU.out⟩
            · obtain rfl : rl = y := by omega
              have HYES : Hid (rowB n row = true) := Lib.hid (all_end HRL.out HTA.out)
              clear hU56
              go_wp2
              refine ⟨⟨x + 1, by omega, by go_num, by rw [HAT.out, HT.out, HYES.out]; rfl, B1.out, HU.out⟩, by simp [intOf]; omega⟩
        · obtain rfl : s = x := by omega
          have H2 : Hid (g.2.all (rowB n) = true) := Lib.hid (all_end LS.out HT.out)
          clear hU
          go_wp2
          go_ret
          exact ⟨show Ending.returned (.bool true) = .returned (.bool bo) from by rw [← HB.out, H1.out, H2.out]; rfl, HU.out⟩
end Go.Proofs.Ytlocllcijncllaa
