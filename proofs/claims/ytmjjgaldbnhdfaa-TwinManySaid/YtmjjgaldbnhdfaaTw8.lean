/- The document's word on what is over there; the example that stands at the head of all statements; which rooms are asked about. -/
import Derived.Test.YtmjjgaldbnhdfaaTw7
namespace Go.Proofs.Ytmjjgaldbnhdfaa
open Go.Joins Go.ChangeShapes Go.WideShapes Go.ChangeAt Go.RowKit Go.Deep
set_option linter.unusedVariables false
set_option linter.unusedSimpArgs false

set_option maxRecDepth 100000 in
set_option maxHeartbeats 2000000 in
theorem rover_any (n s a l x y A : Int) (MA MB : Value) (w : World) (hA : U64 A) :
    Calls Try.prog 13 #[rov n MA MB s a l x y, .int .u64 A] w fun e w' => e = .returned (.bool (ovb s A)) ∧ Up w w' := by
  have hw := Lib.hid (fun w => rwhere A hA.1 hA.2 w)
  unfold ovb
  generalize whs A = s1 at hw ⊢
  generalize whp A = p1 at hw
  generalize whb A = b1 at hw ⊢
  have U0 : Up w (w.alloc (.cells (roc n MA MB s a l x y) 31)) := (Up.refl w).alloc _
  cases b1
  · go_enter Try.func13, Try.ntmps13
    go_wp2_with (fail)
    refine (hw.out _).mono ?_
    rintro e w1 ⟨rfl, rfl⟩
    go_wp2
    go_ret
    exact ⟨rfl, U0⟩
  by_cases h : s1 = s
  · have q : (s1 == s) = true := beq_iff_eq.2 h
    rw [decide_eq_true h]
    clear h
    go_enter Try.func13, Try.ntmps13
    go_wp2_with (fail)
    refine (hw.out _).mono ?_
    rintro e w1 ⟨rfl, rfl⟩
    go_wp2
    go_ret
    exact ⟨rfl, U0⟩
  · have q : (s1 == s) = false := beq_eq_false_iff_ne.2 h
    rw [decide_eq_false h]
    clear h
    go_enter Try.func13, Try.ntmps13
    go_wp2_with (fail)
    refine (hw.out _).mono ?_
    rintro e w1 ⟨rfl, rfl⟩
    go_wp2
    go_ret
    exact ⟨rfl, U0⟩

/-! ### the document's example -/
def mQ : Me := m16.putm 4294967296 1 2 0
def sT : An := toa mQ 1 0 16 4294967296
def sU : An := toa sT.m 1 sT.a 16 4294967296
theorem facts11 : m16.pute 4294967296 1 2 0 = 0 ∧ mQ.n = 16 ∧ sT.m.n = 16 ∧ sT.a = 4 ∧ sT.b = 8589934592 ∧ sT.e = 0 ∧ sU.m.n = 16 ∧ sU.a = 4 ∧ sU.b = 8589934592 ∧ sU.e = 0 := by decide +kernel
theorem shP (W : World) (P Q : Addr) (h : Sits W m16 P Q 16 16) :
    Calls Try.prog 18 #[.agg #[.int .i64 16, .slice (some P) 16 16, .slice (some Q) 16 16], .int .u64 4294967296, hdv 1 2 0] W
      fun e w' => ∃ P' Q' c' d', e = .returned (.tuple #[.agg #[.int .i64 16, .slice (some P') 16 c', .slice (some Q') 16 d'], .int .i64 0]) ∧ Sits w' mQ P' Q' c' d' ∧ Up W w' := by
  refine (rput_any m16 4294967296 1 2 0 P Q 16 16 W h (by unfold U64; decide) (by decide)).mono ?_
  rintro e w' ⟨P', Q', c', d', rfl, hs, hu⟩
  refine ⟨P', Q', c', d', ?_, hs, hu⟩
  rw [facts11.1, show (m16.putm 4294967296 1 2 0).n = 16 from facts11.2.1]
  rfl
theorem mQ_ok : mQ.ok := show 16 ≤ mQ.n ∧ mQ.n ≤ 4096 ∧ mQ.xs.length = mQ.n ∧ mQ.ys.length = mQ.n from by decide +kernel
theorem mQ_wf : mQ.wf := put_wf (by decide) m16_ok.2
theorem shT (W : World) (P Q : Addr) (c d : Nat) (h : Sits W mQ P Q c d) :
    Calls Try.prog 9 #[.agg #[.int .i64 16, .slice (some P) 16 c, .slice (some Q) 16 d, .int .i64 1, .int .i64 0, .int .i64 16, .int .i64 0, .int .i64 0], .int .u64 4294967296] W
      fun e w' => ∃ P' Q' c' d', e = .returned (.tuple #[rov 16 (.slice (some P') 16 c') (.slice (some Q') 16 d') 1 4 16 0 0, .int .u64 8589934592, .int .i64 0]) ∧ Sits w' sT.m P' Q' c' d' ∧ Up W w' := by
  have q := to_any mQ 1 0 16 0 0 4294967296 P Q c d W h (by unfold U64; decide) mQ_wf (by decide) (by rw [facts11.2.1]; rfl)
  rw [facts11.2.1] at q
  refine q.mono ?_
  rintro e w' ⟨P', Q', c', d', rfl, hs, hu, _⟩
  refine ⟨P', Q', c', d', ?_, hs, hu⟩
  rw [show (toa mQ 1 0 16 4294967296).m.n = 16 from facts11.2.2.1, show (toa mQ 1 0 16 4294967296).a = 4 from facts11.2.2.2.1, show (toa mQ 1 0 16 4294967296).b = 8589934592 from facts11.2.2.2.2.1, show (toa mQ 1 0 16 4294967296).e = 0 from facts11.2.2.2.2.2.1]
  rfl
theorem shU (W : World) (P Q : Addr) (c d : Nat) (h : Sits W sT.m P Q c d) (hwf : sT.m.wf) :
    Calls Try.prog 9 #[.agg #[.int .i64 16, .slice (some P) 16 c, .slice (some Q) 16 d, .int .i64 1, .int .i64 4, .int .i64 16, .int .i64 0, .int .i64 0], .int .u64 4294967296] W
      fun e w' => ∃ P' Q' c' d', e = .returned (.tuple #[rov 16 (.slice (some P') 16 c') (.slice (some Q') 16 d') 1 4 16 0 0, .int .u64 8589934592, .int .i64 0]) ∧ Sits w' sU.m P' Q' c' d' ∧ Up W w' := by
  obtain ⟨_, _, f3, f4, _, _, f7, f8, f9, f10⟩ := facts11
  have q := to_any sT.m 1 sT.a 16 0 0 4294967296 P Q c d W h (by unfold U64; decide) hwf (by rw [f4]; decide) (by rw [f3]; rfl)
  rw [f3, f4] at q
  refine q.mono ?_
  rintro e w' ⟨P', Q', c', d', rfl, hs, hu, _⟩
  have e0 : toa sT.m 1 4 16 4294967296 = sU := by unfold sU; rw [f4]
  rw [e0] at hs ⊢
  refine ⟨P', Q', c', d', ?_, hs, hu⟩
  rw [f7, f8, f9, f10]
  rfl

set_option maxRecDepth 100000 in
set_option maxHeartbeats 4000000 in
theorem shown11 (w : World) : Calls Try.prog 7 #[] w fun e w' => e = .returned (.bool true) ∧ Up w w' := by
  have hmk : ∀ w : World, (Instr.makeSlice 22 (.int .i64 16) (.int .i64 16)).run Try.prog w = .ok (.slice (some ⟨w.heap.size, 0, none⟩) 16 16) (w.alloc (.cells (wds (zers 16)).toArray 32)) := make_is 16 (by decide)
  have hP := Lib.hid shP
  have hT := Lib.hid shT
  have hU := Lib.hid (fun W P Q c d h => shU W P Q c d h (toa_la (A := 4294967296) (m := mQ) (s := 1) (a := 0) (l := 16) mQ_ok mQ_wf (by decide) (by rw [facts11.2.1]; rfl)).wf)
  go_enter Try.func7, Try.ntmps7
  go_wp2
  go_region
  all_goals
    go_wp2_with (fail)
    refine calls_at (fun V hV => ?_)
    obtain ⟨U0, B0, B1, B2⟩ := three hV
    clear hV
    refine (hP.out V _ _ (m16_sits V _ _ (by first | exact row_of_blk B0 | exact row_of_blk B1 | exact row_of_blk B2) (by first | exact row_of_blk B0 | exact row_of_blk B1 | exact row_of_blk B2))).mono ?_
    rintro e w2 ⟨P', Q', c', d', rfl, s2, h2⟩
    have U2 := U0.trans h2
    first
      | (have D2 := B0.up h2
         have s3 := s2.far3 D2 (.int .i64 16) (.slice (some P') 16 c') (.slice (some Q') 16 d')
         have D3 := D2.set3 (.int .i64 16) (.slice (some P') 16 c') (.slice (some Q') 16 d')
         have U3 := U2.set3 (g := w.heap.size) (by omega) (.int .i64 16) (.slice (some P') 16 c') (.slice (some Q') 16 d')
         have D2c := D2.cell
         have D2f := D2.frozen
         have D2l := D2.lt
         go_wp2_with (fail)
         refine (hT.out _ P' Q' c' d' s3).mono ?_
         rintro e w4 ⟨P5, Q5, c5, d5, rfl, s4, h4⟩
         have U4 := U3.trans h4
         clear D2 D2c D2f D2l h2 h4 U2 U3 D3 s3 B0 B1 B2 U0
         go_wp2_with (fail)
         refine calls_at (fun V5 hV5 => ?_)
         have U5 : Up w4 V5 := by rw [hV5]; exact (Up.refl _).alloc _
         have R5 : Blk V5 w4.heap.size 31 (roc 16 (.slice (some P5) 16 c5) (.slice (some Q5) 16 d5) 1 4 16 0 0) := by rw [hV5]; exact Blk.new _ _ _
         clear hV5
         refine (hU.out V5 P5 Q5 c5 d5 (s4.up U5)).mono ?_
         rintro e w6 ⟨P7, Q7, c7, d7, rfl, s6, h6⟩
         have R6 := R5.up h6
         have U6 := (U4.trans U5).trans h6
         clear R5 U5 h6 s4 U4
         have R6c := R6.cell
         have R6l := R6.lt
         simp only [roc] at R6c
         go_wp2
         go_ret
         exact ⟨rfl, U6.alloc _⟩)
      | (have D2 := B1.up h2
         have s3 := s2.far3 D2 (.int .i64 16) (.slice (some P') 16 c') (.slice (some Q') 16 d')
         have D3 := D2.set3 (.int .i64 16) (.slice (some P') 16 c') (.slice (some Q') 16 d')
         have U3 := U2.set3 (g := (w.heap.size + 1)) (by omega) (.int .i64 16) (.slice (some P') 16 c') (.slice (some Q') 16 d')
         have D2c := D2.cell
         have D2f := D2.frozen
         have D2l := D2.lt
         go_wp2_with (fail)
         refine (hT.out _ P' Q' c' d' s3).mono ?_
         rintro e w4 ⟨P5, Q5, c5, d5, rfl, s4, h4⟩
         have U4 := U3.trans h4
         clear D2 D2c D2f D2l h2 h4 U2 U3 D3 s3 B0 B1 B2 U0
         go_wp2_with (fail)
         refine calls_at (fun V5 hV5 => ?_)
         have U5 : Up w4 V5 := by rw [hV5]; exact (Up.refl _).alloc _
         have R5 : Blk V5 w4.heap.size 31 (roc 16 (.slice (some P5) 16 c5) (.slice (some Q5) 16 d5) 1 4 16 0 0) := by rw [hV5]; exact Blk.new _ _ _
         clear hV5
         refine (hU.out V5 P5 Q5 c5 d5 (s4.up U5)).mono ?_
         rintro e w6 ⟨P7, Q7, c7, d7, rfl, s6, h6⟩
         have R6 := R5.up h6
         have U6 := (U4.trans U5).trans h6
         clear R5 U5 h6 s4 U4
         have R6c := R6.cell
         have R6l := R6.lt
         simp only [roc] at R6c
         go_wp2
         go_ret
         exact ⟨rfl, U6.alloc _⟩)
      | (have D2 := B2.up h2
         have s3 := s2.far3 D2 (.int .i64 16) (.slice (some P') 16 c') (.slice (some Q') 16 d')
         have D3 := D2.set3 (.int .i64 16) (.slice (some P') 16 c') (.slice (some Q') 16 d')
         have U3 := U2.set3 (g := (w.heap.size + 1 + 1)) (by omega) (.int .i64 16) (.slice (some P') 16 c') (.slice (some Q') 16 d')
         have D2c := D2.cell
         have D2f := D2.frozen
         have D2l := D2.lt
         go_wp2_with (fail)
         refine (hT.out _ P' Q' c' d' s3).mono ?_
         rintro e w4 ⟨P5, Q5, c5, d5, rfl, s4, h4⟩
         have U4 := U3.trans h4
         clear D2 D2c D2f D2l h2 h4 U2 U3 D3 s3 B0 B1 B2 U0
         go_wp2_with (fail)
         refine calls_at (fun V5 hV5 => ?_)
         have U5 : Up w4 V5 := by rw [hV5]; exact (Up.refl _).alloc _
         have R5 : Blk V5 w4.heap.size 31 (roc 16 (.slice (some P5) 16 c5) (.slice (some Q5) 16 d5) 1 4 16 0 0) := by rw [hV5]; exact Blk.new _ _ _
         clear hV5
         refine (hU.out V5 P5 Q5 c5 d5 (s4.up U5)).mono ?_
         rintro e w6 ⟨P7, Q7, c7, d7, rfl, s6, h6⟩
         have R6 := R5.up h6
         have U6 := (U4.trans U5).trans h6
         clear R5 U5 h6 s4 U4
         have R6c := R6.cell
         have R6l := R6.lt
         simp only [roc] at R6c
         go_wp2
         go_ret
         exact ⟨rfl, U6.alloc _⟩)

theorem fewr_ok (m : Me) (s a l x y : Int) (h : m.ok) (hn : m.n ≤ 200) (hr : rgt s a l) (hl : l = m.n) (hp : (x = 0 ∧ y = 0) ∨ (0 ≤ x ∧ x ≤ y ∧ y ≤ a)) : fewr m.n m.n m.n s a l x y = true := by
  have h16 := h.1
  have e1 : rt m.n m.n m.n = true := decide_eq_true ⟨by omega, by omega, rfl, rfl⟩
  have e2 : rgb s a l = true := decide_eq_true hr
  have e3 : decide (l = m.n) = true := decide_eq_true hl
  have e4 : pcb a x y = true := decide_eq_true hp
  have e5 : decide ((m.n : Int) ≤ 200) = true := decide_eq_true (by omega)
  unfold fewr rob
  rw [e1, e2, e3, e4, e5]
  rfl
theorem rob_ok (m : Me) (s a l x y : Int) (h : m.ok) (hr : rgt s a l) (hl : l = m.n) (hp : (x = 0 ∧ y = 0) ∨ (0 ≤ x ∧ x ≤ y ∧ y ≤ a)) : rob m.n m.n m.n s a l x y = true := by
  have h16 := h.1
  have h2 := h.2.1
  have e1 : rt m.n m.n m.n = true := decide_eq_true ⟨by omega, by omega, rfl, rfl⟩
  have e2 : rgb s a l = true := decide_eq_true hr
  have e3 : decide (l = m.n) = true := decide_eq_true hl
  have e4 : pcb a x y = true := decide_eq_true hp
  unfold rob
  rw [e1, e2, e3, e4]
  rfl
section
variable {H : Type} {enc : TypeId × Value → H} {w : World}
set_option maxRecDepth 100000 in
theorem words_at {r : Reach} {b0 : Nat} {v : Value} {d : DataW H} {p : List MemPlace} (hv : Value.okWide Try.prog w r b0 22 v) (h : DataW.Trod enc Try.prog w 0 (fun _ => true) true 22 v d p) : ∃ A n c xs, v = .slice A n c ∧ SlOk w A n c xs := by
  obtain ⟨a, len, cap, rfl⟩ := okWide_slice Try.underlying22 hv
  obtain ⟨fuel, hf⟩ := h
  exact words_open (x := (d, p)) hf
end
end Go.Proofs.Ytmjjgaldbnhdfaa
