/- How many aren't gone through yet (scan.Grey): contract. One twin gone through (scan.One), whole; the example that stands at the head of all statements; which rooms are asked about. -/
import Derived.Test.YtmhnbnifoncodaaSc1
import Derived.ScopeJumps
import Derived.Test.YtmhnbnifoncodaaSc5
namespace Go.Proofs.Ytmhnbnifoncodaa
open Go.ChangeShapes Go.WideShapes Go.ChangeAt Go.RowKit
set_option linter.unusedVariables false
set_option linter.unusedSimpArgs false

theorem gry_yes {m : Me} {s a p n : Int} {f : Nat} (h : ste m s a p = 0) : gry m s a (f + 1) p n = gry m s a f (p + m.wz (adr s p)) (n + 1) := by
  conv => lhs; unfold gry
  rw [if_pos h]
theorem gry_end {m : Me} {s a p n : Int} {f : Nat} (h : ste m s a p = 9) : gry m s a (f + 1) p n = n := by
  conv => lhs; unfold gry
  rw [if_neg (by rw [h]; decide), if_pos h]
theorem gry_bad {m : Me} {s a p n : Int} {f : Nat} (h : ste m s a p ≠ 0) (h9 : ste m s a p ≠ 9) : gry m s a (f + 1) p n = -1 := by
  conv => lhs; unfold gry
  rw [if_neg h, if_neg h9]
/-- How far it is. -/
def AtG (m : Me) (s a l x y : Int) (P Q : Addr) (c d : Nat) (w : World) (R : Int) (a' : Act) (w' : World) : Prop :=
  ∃ (p n : Int) (f : Nat) (u6 u7 u8 u9 u10 u11 u12 u13 u14 u15 u16 u17 u18 u19 u20 u21 u22 u23 u24 u25 : Value),
    a' = { tmps := #[rov m.n (sl P m.n c) (sl Q m.n d) s a l x y, .int .i64 p, bx w.heap.size, undef, .int .i64 0, .int .i64 n, u6, u7, u8, u9, u10, u11, u12, u13, u14, u15, u16, u17, u18, u19, u20, u21, u22, u23, u24, u25], defers := [] }
      ∧ (a - p).toNat < f ∧ R = gry m s a f p n ∧ 0 ≤ n ∧ n ≤ 5000 ∧ (n = 0 ∨ n ≤ p) ∧ Up w w' ∧ Blk w' w.heap.size 31 (roc m.n (sl P m.n c) (sl Q m.n d) s a l x y)

set_option maxRecDepth 100000 in
set_option maxHeartbeats 4000000 in
theorem grey_any (m : Me) (s a l x y p : Int) (P Q : Addr) (c d : Nat) (w : World) (hm : Sits w m P Q c d) (hwf : m.wf) (hr : rgt s a l) (hl : l = m.n) (f : Nat) (hf : (a - p).toNat < f) :
    Calls Try.prog 7 #[rov m.n (sl P m.n c) (sl Q m.n d) s a l x y, .int .i64 p] w fun e w' => e = .returned (.int .i64 (gry m s a f p 0)) ∧ Up w w' := by
  have HM := Lib.hid hm
  have HR := Lib.hid hr
  have HLN := Lib.hid hl
  have HSS := Lib.hid (fun (p : Int) (W : World) (U : Up w W) => stands_any m s a l x y p P Q c d W (hm.up U) hwf hr hl)
  obtain ⟨R, hR⟩ : ∃ R, gry m s a f p 0 = R := ⟨_, rfl⟩
  have HF0 := Lib.hid (And.intro hf hR)
  rw [hR]
  clear hm hr hl hf hR
  go_enter Try.func7, Try.ntmps7
  go_wp2
  refine wp_scope_jumps 0 (AtG m s a l x y P Q c d w R) (fun a' _ => (a - intOf (a'.tmps.getD 1 undef)).toNat) rfl ?_ ?_
  · obtain ⟨W, hW⟩ : ∃ W : World, W = w.alloc (.cells (roc m.n (sl P m.n c) (sl Q m.n d) s a l x y) 31) := ⟨_, rfl⟩
    have U : Up w W := by rw [hW]; exact (Up.refl w).alloc _
    have X : Blk W w.heap.size 31 (roc m.n (sl P m.n c) (sl Q m.n d) s a l x y) := by rw [hW]; exact Blk.new w _ _
    rw [← hW]
    clear hW
    obtain ⟨f, rfl⟩ : ∃ g, f = g + 1 := ⟨f - 1, by have := HF0.out.1; omega⟩
    have HF := HF0
    clear HF0
    go_wp2_with (fail)
    go_step3
    have hst := Lib.hid (HSS.out p W U)
    have Xc := X.cell
    have Xl := X.lt
    simp only [roc] at Xc
    unfold sth at hst
    by_cases e0 : ste m s a p = 0
    · have h0 := ste_0 e0
      have hw := ste_wz e0
      obtain ⟨hrt, hmp⟩ := at_rte h0.2.2.1
      have hr2 := HR.out.2
      have HG := Lib.hid (HF.out.2.symm.trans (gry_yes e0))
      have hwd := Lib.hid (fun w => words_any (m.att (adr s p)) (m.atl (adr s p)) (m.atm (adr s p)) hmp hrt w)
      rw [e0, if_pos rfl] at hst
      unfold Me.wz at HG hw h0
      generalize wdn (m.att (adr s p)) (m.atl (adr s p)) = k at HG hw h0 hwd
      generalize m.att (adr s p) = t at hst hwd
      generalize m.atl (adr s p) = lo at hst hwd
      generalize m.atm (adr s p) = mp at hst hwd
      have hp0 : 0 ≤ p := h0.1
      have hp1 : p + k ≤ a := h0.2.2.2
      have hp2 : p ≤ 4096 := by omega
      have hk1 : 1 ≤ k := hw.1
      have hk2 : k ≤ 4096 := by omega
      have ha2 : a ≤ 4096 := by omega
      clear e0 h0 hw hrt hmp hr2
      go_wp2_with (fail)
      refine hst.out.mono ?_
      rintro e w1 ⟨rfl, h1⟩
      have U1 := (U.trans h1).alloc (.cells (hcs t lo mp) 43)
      have X1 := (X.up h1).alloc (.cells (hcs t lo mp) 43)
      have H1 := Blk.new w1 43 (hcs t lo mp)
      have H1c := H1.cell
      clear h1 Xc Xl hst X U
      go_wp2_with (fail)
      refine (hwd.out _).mono ?_
      rintro e w2 ⟨rfl, h2⟩
      have U2 := U1.trans h2
      have X2 := X1.up h2
      clear h2 H1 H1c X1 U1 hwd
      go_wp2_with (fail)
      go_step3
      refine ⟨rfl, ⟨p + k, 1, f, _, _, _, _, _, _, _, _, _, _, _, _, _, _, _, _, _, _, _, _, rfl, by have := HF.out.1; omega, HG.out, by decide, by decide, .inr (by omega), U2, X2⟩⟩
    · by_cases e9 : ste m s a p = 9
      · have HG := Lib.hid (HF.out.2.symm.trans (gry_end e9))
        rw [e9, if_neg (by decide)] at hst
        clear e0 e9
        go_wp2_with (fail)
        refine hst.out.mono ?_
        rintro e w1 ⟨rfl, h1⟩
        have U1 := (U.trans h1).alloc (.cells (hcs 0 0 0) 43)
        clear h1 Xc Xl hst X U
        go_wp2_with (fail)
        try simp only [Exit.jump]
        go_ret
        exact ⟨congrArg (fun z : Int => Ending.returned (Value.int .i64 z)) HG.out.symm, U1⟩
      · have HG := Lib.hid (HF.out.2.symm.trans (gry_bad e0 e9))
        rw [if_neg e0] at hst
        obtain ⟨z, hz⟩ : ∃ z, ste m s a p = z := ⟨_, rfl⟩
        rw [hz] at hst
        have q0 : (z == 0) = false := beq_eq_false_iff_ne.2 (by rw [← hz]; exact e0)
        have q9 : (z == 9) = false := beq_eq_false_iff_ne.2 (by rw [← hz]; exact e9)
        clear e0 e9 hz
        go_wp2_with (fail)
        refine hst.out.mono ?_
        rintro e w1 ⟨rfl, h1⟩
        have U1 := (U.trans h1).alloc (.cells (hcs 0 0 0) 43)
        clear h1 Xc Xl hst X U
        go_wp2_with (fail)
        try simp only [Exit.jump]
        go_ret
        exact ⟨congrArg (fun z : Int => Ending.returned (Value.int .i64 z)) HG.out.symm, U1⟩
  · rintro a' wr ⟨p, n, f, u6, u7, u8, u9, u10, u11, u12, u13, u14, u15, u16, u17, u18, u19, u20, u21, u22, u23, u24, u25, rfl, hf, hRf, hn0, hn1, hnp, U, X⟩
    obtain ⟨f, rfl⟩ : ∃ g, f = g + 1 := ⟨f - 1, by omega⟩
    have HF := Lib.hid (And.intro hf hRf.symm)
    clear hf hRf HF0
    have hst := Lib.hid (HSS.out p wr U)
    have Xc := X.cell
    have Xl := X.lt
    simp only [roc] at Xc
    unfold sth at hst
    by_cases e0 : ste m s a p = 0
    · have h0 := ste_0 e0
      have hw := ste_wz e0
      obtain ⟨hrt, hmp⟩ := at_rte h0.2.2.1
      have hr2 := HR.out.2
      have HG := Lib.hid (HF.out.2.symm.trans (gry_yes e0))
      have hwd := Lib.hid (fun w => words_any (m.att (adr s p)) (m.atl (adr s p)) (m.atm (adr s p)) hmp hrt w)
      rw [e0, if_pos rfl] at hst
      unfold Me.wz at HG hw h0
      generalize wdn (m.att (adr s p)) (m.atl (adr s p)) = k at HG hw h0 hwd
      generalize m.att (adr s p) = t at hst hwd
      generalize m.atl (adr s p) = lo at hst hwd
      generalize m.atm (adr s p) = mp at hst hwd
      have hp0 : 0 ≤ p := h0.1
      have hp1 : p + k ≤ a := h0.2.2.2
      have hp2 : p ≤ 4096 := by omega
      have hk1 : 1 ≤ k := hw.1
      have hk2 : k ≤ 4096 := by omega
      have ha2 : a ≤ 4096 := by omega
      have hn2 : n ≤ 4096 := by omega
      clear e0 h0 hw hrt hmp hr2
      go_wp2_with (fail)
      refine hst.out.mono ?_
      rintro e w1 ⟨rfl, h1⟩
      have U1 := (U.trans h1).alloc (.cells (hcs t lo mp) 43)
      have X1 := (X.up h1).alloc (.cells (hcs t lo mp) 43)
      have H1 := Blk.new w1 43 (hcs t lo mp)
      have H1c := H1.cell
      clear h1 Xc Xl hst X U
      go_wp2_with (fail)
      refine (hwd.out _).mono ?_
      rintro e w2 ⟨rfl, h2⟩
      have U2 := U1.trans h2
      have X2 := X1.up h2
      clear h2 H1 H1c X1 U1 hwd
      go_wp2_with (fail)
      go_step3
      refine ⟨rfl, ⟨p + k, n + 1, f, _, _, _, _, _, _, _, _, _, _, _, _, _, _, _, _, _, _, _, _, rfl, by have := HF.out.1; omega, HG.out, by omega, by omega, .inr (by omega), U2, X2⟩, ?_⟩
      simp [intOf]; omega
    · by_cases e9 : ste m s a p = 9
      · have HG := Lib.hid (HF.out.2.symm.trans (gry_end e9))
        rw [e9, if_neg (by decide)] at hst
        clear e0 e9
        go_wp2_with (fail)
        refine hst.out.mono ?_
        rintro e w1 ⟨rfl, h1⟩
        have U1 := (U.trans h1).alloc (.cells (hcs 0 0 0) 43)
        clear h1 Xc Xl hst X U
        go_wp2_with (fail)
        try simp only [Exit.jump]
        go_ret
        exact ⟨congrArg (fun z : Int => Ending.returned (Value.int .i64 z)) HG.out.symm, U1⟩
      · have HG := Lib.hid (HF.out.2.symm.trans (gry_bad e0 e9))
        rw [if_neg e0] at hst
        obtain ⟨z, hz⟩ : ∃ z, ste m s a p = z := ⟨_, rfl⟩
        rw [hz] at hst
        have q0 : (z == 0) = false := beq_eq_false_iff_ne.2 (by rw [← hz]; exact e0)
        have q9 : (z == 9) = false := beq_eq_false_iff_ne.2 (by rw [← hz]; exact e9)
        clear e0 e9 hz
        go_wp2_with (fail)
        refine hst.out.mono ?_
        rintro e w1 ⟨rfl, h1⟩
        have U1 := (U.trans h1).alloc (.cells (hcs 0 0 0) 43)
        clear h1 Xc Xl hst X U
        go_wp2_with (fail)
        try simp only [Exit.jump]
        go_ret
        exact ⟨congrArg (fun z : Int => Ending.returned (Value.int .i64 z)) HG.out.symm, U1⟩
end Go.Proofs.Ytmhnbnifoncodaa
namespace Go.Proofs.Ytmhnbnifoncodaa
open Go.Joins Go.ChangeShapes Go.WideShapes Go.ChangeAt Go.RowKit Go.Deep
set_option linter.unusedVariables false
set_option linter.unusedSimpArgs false

theorem one_any (m : Me) (s a l x y p : Int) (P Q : Addr) (c d : Nat) (w : World) (hm : Sits w m P Q c d) (hwf : m.wf) (hr : rgt s a l) (hl : l = m.n) :
    Calls Try.prog 6 #[rov m.n (sl P m.n c) (sl Q m.n d) s a l x y, .int .i64 p] w (OnPost w (onf m s a l p).m s (onf m s a l p).a l x y (onf m s a l p).p (onf m s a l p).e) := by
  by_cases h : ste m s a p = 0
  · exact one_in m s a l x y p P Q c d w hm hwf hr hl h
  · rw [show onf m s a l p = ⟨m, a, p, ste m s a p⟩ from if_neg h]
    exact one_no m s a l x y p _ P Q c d w hm hwf hr hl rfl h
theorem fewr_ok (m : Me) (s a l x y : Int) (h : m.ok) (hn : m.n ≤ 200) (hr : rgt s a l) (hl : l = m.n) (hp : (x = 0 ∧ y = 0) ∨ (0 ≤ x ∧ x ≤ y ∧ y ≤ a)) : fewr m.n m.n m.n s a l x y = true := by
  have h16 := h.1
  have e1 : rt m.n m.n m.n = true := decide_eq_true ⟨by omega, by omega, rfl, rfl⟩
  have e2 : rgb s a l = true := decide_eq_true hr
  have e3 : decide (l = m.n) = true := decide_eq_true hl
  have e4 : pcb a x y = true := decide_eq_true hp
  have e5 : decide ((m.n : Int) ≤ 200) = true := decide_eq_true (by omega)
  unfold fewr rob
  rw [e1, e2, e3, e4, e5]
  rfl

/-! ### the document's example -/
def mA : Me := m16.putm 4294967297 1 0 0
def mB : Me := mA.putm 8589934592 2 1 1
def mC : Me := mB.setm 8589934592 0 4294967297
def oD : On := onf mC 1 3 16 0
theorem facts12 : mA.n = 16 ∧ mB.n = 16 ∧ mC.n = 16 ∧ oD.m.n = 16 ∧ oD.a = 5 ∧ oD.p = 3 ∧ oD.e = 0 ∧ oD.m.getv 8589934592 0 = 8589934595 ∧ oD.m.gete 8589934592 0 = 0 := by decide +kernel
theorem mC_ok : mC.ok := show 16 ≤ mC.n ∧ mC.n ≤ 4096 ∧ mC.xs.length = mC.n ∧ mC.ys.length = mC.n from by decide +kernel
theorem mA_wf : mA.wf := put_wf (by decide) m16_ok.2
theorem mB_wf : mB.wf := put_wf (by decide) mA_wf
theorem mC_wf : mC.wf := set_wf mB_wf (by unfold U64; decide)
theorem oD_wf : oD.m.wf := (onf_ke (p := 0) mC_ok mC_wf (show rgt 1 3 16 from by decide) (by rw [facts12.2.2.1]; rfl)).wf
abbrev m3v (P Q : Addr) (c d : Nat) : Value := .agg #[.int .i64 16, .slice (some P) 16 c, .slice (some Q) 16 d]
def Mem3 (K : Me) (W : World) (e : Ending) (w' : World) : Prop := ∃ P' Q' c' d' z, e = .returned (.tuple #[m3v P' Q' c' d', .int .i64 z]) ∧ Sits w' K P' Q' c' d' ∧ Up W w'
theorem shA (W : World) (P Q : Addr) (h : Sits W m16 P Q 16 16) : Calls Try.prog 8 #[m3v P Q 16 16, .int .u64 4294967297, hdv 1 0 0] W (Mem3 mA W) := by
  refine (rput_any m16 4294967297 1 0 0 P Q 16 16 W h (by unfold U64; decide) (by decide)).mono ?_
  rintro e w' ⟨P', Q', c', d', rfl, hs, hu⟩
  refine ⟨P', Q', c', d', m16.pute 4294967297 1 0 0, ?_, hs, hu⟩
  rw [show (m16.putm 4294967297 1 0 0).n = 16 from facts12.1]
  rfl
theorem shB (W : World) (P Q : Addr) (c d : Nat) (h : Sits W mA P Q c d) : Calls Try.prog 8 #[m3v P Q c d, .int .u64 8589934592, hdv 2 1 1] W (Mem3 mB W) := by
  have q := rput_any mA 8589934592 2 1 1 P Q c d W h (by unfold U64; decide) (by decide)
  rw [facts12.1] at q
  refine q.mono ?_
  rintro e w' ⟨P', Q', c', d', rfl, hs, hu⟩
  refine ⟨P', Q', c', d', mA.pute 8589934592 2 1 1, ?_, hs, hu⟩
  rw [show (mA.putm 8589934592 2 1 1).n = 16 from facts12.2.1]
  rfl
theorem shC (W : World) (P Q : Addr) (c d : Nat) (h : Sits W mB P Q c d) : Calls Try.prog 9 #[m3v P Q c d, .int .u64 8589934592, .int .i64 0, .int .u64 4294967297] W (Mem3 mC W) := by
  have q := rset_any mB 8589934592 0 4294967297 P Q c d W h (by unfold U64; decide) mB_wf
  rw [facts12.2.1] at q
  refine q.mono ?_
  rintro e w' ⟨P', Q', c', d', rfl, hs, hu⟩
  refine ⟨P', Q', c', d', mB.gete 8589934592 0, ?_, hs, hu⟩
  rw [show (mB.setm 8589934592 0 4294967297).n = 16 from facts12.2.2.1]
  rfl
theorem shD (W : World) (P Q : Addr) (c d : Nat) (h : Sits W mC P Q c d) : Calls Try.prog 6 #[.agg #[.int .i64 16, .slice (some P) 16 c, .slice (some Q) 16 d, .int .i64 1, .int .i64 3, .int .i64 16, .int .i64 0, .int .i64 0], .int .i64 0] W
    fun e w' => ∃ P' Q' c' d', e = .returned (.tuple #[rov 16 (.slice (some P') 16 c') (.slice (some Q') 16 d') 1 5 16 0 0, .int .i64 3, .int .i64 0]) ∧ Sits w' oD.m P' Q' c' d' ∧ Up W w' := by
  obtain ⟨_, _, f3, f4, f5, f6, f7, _⟩ := facts12
  have q := one_any mC 1 3 16 0 0 0 P Q c d W h mC_wf (by decide) (by rw [f3]; rfl)
  rw [f3, show onf mC 1 3 16 0 = oD from rfl, f5, f6, f7] at q
  refine q.mono ?_
  rintro e w' ⟨P', Q', c', d', rfl, hs, hu⟩
  refine ⟨P', Q', c', d', ?_, hs, hu⟩
  rw [f4]
  rfl
theorem shE (W : World) (P Q : Addr) (c d : Nat) (h : Sits W oD.m P Q c d) : Calls Try.prog 10 #[m3v P Q c d, .int .u64 8589934592, .int .i64 0] W fun e w' => e = .returned (.tuple #[.int .u64 8589934595, .bool (oD.m.getb 8589934592 0), .int .i64 0]) ∧ Up W w' := by
  obtain ⟨_, _, _, f4, _, _, _, f8, f9⟩ := facts12
  have q := rget_any oD.m 8589934592 0 P Q c d W h (by unfold U64; decide) oD_wf
  rw [f4, f8, f9] at q
  exact q

set_option maxRecDepth 100000 in
set_option maxHeartbeats 8000000 in
theorem shown12 (w : World) : Calls Try.prog 4 #[] w fun e w' => e = .returned (.bool true) ∧ Up w w' := by
  have hmk : ∀ w : World, (Instr.makeSlice 22 (.int .i64 16) (.int .i64 16)).run Try.prog w = .ok (.slice (some ⟨w.heap.size, 0, none⟩) 16 16) (w.alloc (.cells (wds (zers 16)).toArray 41)) := make_is 16 (by decide)
  have hA := Lib.hid shA
  have hB := Lib.hid shB
  have hC := Lib.hid shC
  have hD := Lib.hid shD
  have hE := Lib.hid shE
  obtain ⟨pb, hpb⟩ : ∃ b, oD.m.getb 8589934592 0 = b := ⟨_, rfl⟩
  rw [hpb] at hE
  clear hpb
  go_enter Try.func4, Try.ntmps4
  go_wp2
  go_region
  all_goals
    go_wp2_with (fail)
    refine calls_at (fun V hV => ?_)
    obtain ⟨U0, B0, B1, B2⟩ := three hV
    clear hV
    refine (hA.out V _ _ (m16_sits V _ _ (by first | exact row_of_blk B0 | exact row_of_blk B1 | exact row_of_blk B2) (by first | exact row_of_blk B0 | exact row_of_blk B1 | exact row_of_blk B2))).mono ?_
    rintro e w2 ⟨P', Q', c', d', z1, rfl, s2, h2⟩
    have U2 := U0.trans h2
    first
      | (have D2 := B0.up h2
         have t2 := s2.far3 D2 (.int .i64 16) (.slice (some P') 16 c') (.slice (some Q') 16 d')
         have D3 := D2.set3 (.int .i64 16) (.slice (some P') 16 c') (.slice (some Q') 16 d')
         have U3 := U2.set3 (g := w.heap.size) (by omega) (.int .i64 16) (.slice (some P') 16 c') (.slice (some Q') 16 d')
         have D2c := D2.cell
         have D2f := D2.frozen
         have D2l := D2.lt
         go_wp2_with (fail)
         refine (hB.out _ P' Q' c' d' t2).mono ?_
         rintro e w4 ⟨P4, Q4, c4, d4, z2, rfl, s4, h4⟩
         have U4 := U3.trans h4
         have D4 := D3.up h4
         clear D2 D2c D2f D2l h2 h4 U2 U3 D3 t2 B0 B1 B2 U0 s2
         have t4 := s4.far3 D4 (.int .i64 16) (.slice (some P4) 16 c4) (.slice (some Q4) 16 d4)
         have D5 := D4.set3 (.int .i64 16) (.slice (some P4) 16 c4) (.slice (some Q4) 16 d4)
         have U5 := U4.set3 (g := w.heap.size) (by omega) (.int .i64 16) (.slice (some P4) 16 c4) (.slice (some Q4) 16 d4)
         have D4c := D4.cell
         have D4f := D4.frozen
         have D4l := D4.lt
         go_wp2_with (fail)
         refine (hC.out _ P4 Q4 c4 d4 t4).mono ?_
         rintro e w6 ⟨P6, Q6, c6, d6, z3, rfl, s6, h6⟩
         have U6 := U5.trans h6
         have D6 := D5.up h6
         clear D4 D4c D4f D4l h6 U4 U5 D5 t4 s4
         have t6 := s6.far3 D6 (.int .i64 16) (.slice (some P6) 16 c6) (.slice (some Q6) 16 d6)
         have U7 := U6.set3 (g := w.heap.size) (by omega) (.int .i64 16) (.slice (some P6) 16 c6) (.slice (some Q6) 16 d6)
         have D6c := D6.cell
         have D6f := D6.frozen
         have D6l := D6.lt
         go_wp2_with (fail)
         refine (hD.out _ P6 Q6 c6 d6 t6).mono ?_
         rintro e w8 ⟨P8, Q8, c8, d8, rfl, s8, h8⟩
         have U8 := U7.trans h8
         clear D6 D6c D6f D6l h8 U6 U7 t6 s6
         go_wp2_with (fail)
         refine calls_at (fun V9 hV9 => ?_)
         have U9 : Up w8 V9 := by rw [hV9]; exact (Up.refl _).alloc _
         have R9 : Blk V9 w8.heap.size 31 (roc 16 (.slice (some P8) 16 c8) (.slice (some Q8) 16 d8) 1 5 16 0 0) := by rw [hV9]; exact Blk.new _ _ _
         clear hV9
         refine (hE.out V9 P8 Q8 c8 d8 (s8.up U9)).mono ?_
         rintro e w10 ⟨rfl, h10⟩
         have R10 := R9.up h10
         have U10 := (U8.trans U9).trans h10
         clear R9 U9 h10 s8 U8
         have R10c := R10.cell
         have R10l := R10.lt
         simp only [roc] at R10c
         go_wp2
         go_ret
         exact ⟨rfl, U10⟩)
      | (have D2 := B1.up h2
         have t2 := s2.far3 D2 (.int .i64 16) (.slice (some P') 16 c') (.slice (some Q') 16 d')
         have D3 := D2.set3 (.int .i64 16) (.slice (some P') 16 c') (.slice (some Q') 16 d')
         have U3 := U2.set3 (g := (w.heap.size + 1)) (by omega) (.int .i64 16) (.slice (some P') 16 c') (.slice (some Q') 16 d')
         have D2c := D2.cell
         have D2f := D2.frozen
         have D2l := D2.lt
         go_wp2_with (fail)
         refine (hB.out _ P' Q' c' d' t2).mono ?_
         rintro e w4 ⟨P4, Q4, c4, d4, z2, rfl, s4, h4⟩
         have U4 := U3.trans h4
         have D4 := D3.up h4
         clear D2 D2c D2f D2l h2 h4 U2 U3 D3 t2 B0 B1 B2 U0 s2
         have t4 := s4.far3 D4 (.int .i64 16) (.slice (some P4) 16 c4) (.slice (some Q4) 16 d4)
         have D5 := D4.set3 (.int .i64 16) (.slice (some P4) 16 c4) (.slice (some Q4) 16 d4)
         have U5 := U4.set3 (g := (w.heap.size + 1)) (by omega) (.int .i64 16) (.slice (some P4) 16 c4) (.slice (some Q4) 16 d4)
         have D4c := D4.cell
         have D4f := D4.frozen
         have D4l := D4.lt
         go_wp2_with (fail)
         refine (hC.out _ P4 Q4 c4 d4 t4).mono ?_
         rintro e w6 ⟨P6, Q6, c6, d6, z3, rfl, s6, h6⟩
         have U6 := U5.trans h6
         have D6 := D5.up h6
         clear D4 D4c D4f D4l h6 U4 U5 D5 t4 s4
         have t6 := s6.far3 D6 (.int .i64 16) (.slice (some P6) 16 c6) (.slice (some Q6) 16 d6)
         have U7 := U6.set3 (g := (w.heap.size + 1)) (by omega) (.int .i64 16) (.slice (some P6) 16 c6) (.slice (some Q6) 16 d6)
         have D6c := D6.cell
         have D6f := D6.frozen
         have D6l := D6.lt
         go_wp2_with (fail)
         refine (hD.out _ P6 Q6 c6 d6 t6).mono ?_
         rintro e w8 ⟨P8, Q8, c8, d8, rfl, s8, h8⟩
         have U8 := U7.trans h8
         clear D6 D6c D6f D6l h8 U6 U7 t6 s6
         go_wp2_with (fail)
         refine calls_at (fun V9 hV9 => ?_)
         have U9 : Up w8 V9 := by rw [hV9]; exact (Up.refl _).alloc _
         have R9 : Blk V9 w8.heap.size 31 (roc 16 (.slice (some P8) 16 c8) (.slice (some Q8) 16 d8) 1 5 16 0 0) := by rw [hV9]; exact Blk.new _ _ _
         clear hV9
         refine (hE.out V9 P8 Q8 c8 d8 (s8.up U9)).mono ?_
         rintro e w10 ⟨rfl, h10⟩
         have R10 := R9.up h10
         have U10 := (U8.trans U9).trans h10
         clear R9 U9 h10 s8 U8
         have R10c := R10.cell
         have R10l := R10.lt
         simp only [roc] at R10c
         go_wp2
         go_ret
         exact ⟨rfl, U10⟩)
      | (have D2 := B2.up h2
         have t2 := s2.far3 D2 (.int .i64 16) (.slice (some P') 16 c') (.slice (some Q') 16 d')
         have D3 := D2.set3 (.int .i64 16) (.slice (some P') 16 c') (.slice (some Q') 16 d')
         have U3 := U2.set3 (g := (w.heap.size + 1 + 1)) (by omega) (.int .i64 16) (.slice (some P') 16 c') (.slice (some Q') 16 d')
         have D2c := D2.cell
         have D2f := D2.frozen
         have D2l := D2.lt
         go_wp2_with (fail)
         refine (hB.out _ P' Q' c' d' t2).mono ?_
         rintro e w4 ⟨P4, Q4, c4, d4, z2, rfl, s4, h4⟩
         have U4 := U3.trans h4
         have D4 := D3.up h4
         clear D2 D2c D2f D2l h2 h4 U2 U3 D3 t2 B0 B1 B2 U0 s2
         have t4 := s4.far3 D4 (.int .i64 16) (.slice (some P4) 16 c4) (.slice (some Q4) 16 d4)
         have D5 := D4.set3 (.int .i64 16) (.slice (some P4) 16 c4) (.slice (some Q4) 16 d4)
         have U5 := U4.set3 (g := (w.heap.size + 1 + 1)) (by omega) (.int .i64 16) (.slice (some P4) 16 c4) (.slice (some Q4) 16 d4)
         have D4c := D4.cell
         have D4f := D4.frozen
         have D4l := D4.lt
         go_wp2_with (fail)
         refine (hC.out _ P4 Q4 c4 d4 t4).mono ?_
         rintro e w6 ⟨P6, Q6, c6, d6, z3, rfl, s6, h6⟩
         have U6 := U5.trans h6
         have D6 := D5.up h6
         clear D4 D4c D4f D4l h6 U4 U5 D5 t4 s4
         have t6 := s6.far3 D6 (.int .i64 16) (.slice (some P6) 16 c6) (.slice (some Q6) 16 d6)
         have U7 := U6.set3 (g := (w.heap.size + 1 + 1)) (by omega) (.int .i64 16) (.slice (some P6) 16 c6) (.slice (some Q6) 16 d6)
         have D6c := D6.cell
         have D6f := D6.frozen
         have D6l := D6.lt
         go_wp2_with (fail)
         refine (hD.out _ P6 Q6 c6 d6 t6).mono ?_
         rintro e w8 ⟨P8, Q8, c8, d8, rfl, s8, h8⟩
         have U8 := U7.trans h8
         clear D6 D6c D6f D6l h8 U6 U7 t6 s6
         go_wp2_with (fail)
         refine calls_at (fun V9 hV9 => ?_)
         have U9 : Up w8 V9 := by rw [hV9]; exact (Up.refl _).alloc _
         have R9 : Blk V9 w8.heap.size 31 (roc 16 (.slice (some P8) 16 c8) (.slice (some Q8) 16 d8) 1 5 16 0 0) := by rw [hV9]; exact Blk.new _ _ _
         clear hV9
         refine (hE.out V9 P8 Q8 c8 d8 (s8.up U9)).mono ?_
         rintro e w10 ⟨rfl, h10⟩
         have R10 := R9.up h10
         have U10 := (U8.trans U9).trans h10
         clear R9 U9 h10 s8 U8
         have R10c := R10.cell
         have R10l := R10.lt
         simp only [roc] at R10c
         go_wp2
         go_ret
         exact ⟨rfl, U10⟩)

end Go.Proofs.Ytmhnbnifoncodaa
