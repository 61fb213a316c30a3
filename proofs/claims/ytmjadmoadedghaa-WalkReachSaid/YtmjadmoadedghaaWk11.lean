/- What stands at the head of all statements on walks: the document's example; is memory right, of 200 words at most? -/
import Derived.Test.YtmjadmoadedghaaWk9
import Derived.Test.YtmjadmoadedghaaWk8
import Derived.Test.YtmjadmoadedghaaWk10
import Derived.Test.YtmjadmoadedghaaOb12
namespace Go.Proofs.Ytmjadmoadedghaa
open Go.Joins Go.ChangeShapes Go.WideShapes Go.ChangeAt Go.RowKit Go.Deep
set_option linter.unusedVariables false
set_option linter.unusedSimpArgs false

set_option maxHeartbeats 2000000 in
theorem few_any (N : Int) (A0 A1 : Option Addr) (n0 n1 c0 c1 : Nat) (w : World) :
    Calls Try.prog 11 #[.agg #[.int .i64 N, .slice A0 n0 c0, .slice A1 n1 c1]] w fun e w' => e = .returned (.bool (few N n0 n1)) ∧ Up w w' := by
  have hr := fun w => rmright_any N A0 A1 n0 n1 c0 c1 w
  unfold few
  cases hb : rt N n0 n1
  · rw [hb] at hr
    rw [Bool.false_and]
    have hr := Lib.hid hr
    clear hb
    go_enter Try.func11, Try.ntmps11
    go_wp2_with (fail)
    refine (hr.out _).mono ?_
    rintro e w1 ⟨rfl, h1⟩
    go_wp2
    go_ret
    exact ⟨rfl, ((Up.refl _).alloc _).trans h1⟩
  · rw [hb] at hr
    rw [Bool.true_and]
    have hr := Lib.hid hr
    clear hb
    generalize hd : decide (N ≤ 200) = b
    go_enter Try.func11, Try.ntmps11
    go_wp2_with (fail)
    refine (hr.out _).mono ?_
    rintro e w1 ⟨rfl, h1⟩
    have D1c := ((Blk.new w 25 _).up h1).cell
    go_wp2
    go_ret
    exact ⟨rfl, ((Up.refl _).alloc _).trans h1⟩

def mA : Me := m16.putm 4294967296 1 1 0
def mB : Me := mA.fillm 4294967299 2
theorem shown_facts : m16.pute 4294967296 1 1 0 = 0 ∧ mA.fille 4294967299 2 = 0 ∧ mA.n = 16 ∧ mB.n = 16 ∧ mB.tle 0 5 = 0 ∧ mB.tll wAll 0 5 = [4294967296, 4294967299] ∧ mB.tll wObj 0 5 = [4294967296] := by decide +kernel
theorem mA_wf : mA.wf := put_wf (by decide) m16_ok.2
theorem mB_wf : mB.wf := put_wf (m := mA) (a := 4294967299) (t := 255) (l := 1) (mp := 0) (by decide) mA_wf
theorem rd_two {w : World} {n₀ : Nat} {v : Value} {x y : Int} (h : Lo w n₀ v [x, y]) : ∃ g cap, v = .slice (some ⟨g, 0, none⟩) 2 cap ∧ Row w ⟨g, 0, none⟩ [x, y] := by
  obtain ⟨g, cap, rfl⟩ := ownsRow_succ (k := 1) h
  have hr := h.rd.2 (by simp)
  obtain ⟨p, e, hw⟩ := hr
  cases e
  exact ⟨g, cap, rfl, hw⟩
theorem rd_one {w : World} {n₀ : Nat} {v : Value} {x : Int} (h : Lo w n₀ v [x]) : ∃ g cap, v = .slice (some ⟨g, 0, none⟩) 1 cap ∧ Row w ⟨g, 0, none⟩ [x] := by
  obtain ⟨g, cap, rfl⟩ := ownsRow_succ (k := 0) h
  have hr := h.rd.2 (by simp)
  obtain ⟨p, e, hw⟩ := hr
  cases e
  exact ⟨g, cap, rfl, hw⟩
set_option maxHeartbeats 4000000 in
theorem shown_any (w : World) : Calls Try.prog 10 #[] w fun e w' => e = .returned (.bool true) ∧ Up w w' := by
  have hmk : ∀ w : World, (Instr.makeSlice 22 (.int .i64 16) (.int .i64 16)).run Try.prog w = .ok (.slice (some ⟨w.heap.size, 0, none⟩) 16 16) (w.alloc (.cells (wds (zers 16)).toArray 31)) := make_is 16 (by decide)
  have hP := Lib.hid (fun (W : World) (P Q : Addr) (h : Sits W m16 P Q 16 16) => show Calls Try.prog 23 #[.agg #[.int .i64 16, .slice (some P) 16 16, .slice (some Q) 16 16], .int .u64 4294967296, hdv 1 1 0] W (Gives1 W mA (.int .i64 0)) from by
    have h := rput_any m16 4294967296 1 1 0 P Q 16 16 W h ⟨by decide, by decide⟩ (by decide)
    rw [shown_facts.1] at h
    exact h)
  have hF := Lib.hid (fun (W : World) (P Q : Addr) (c d : Nat) (h : Sits W mA P Q c d) => show Calls Try.prog 24 #[.agg #[.int .i64 16, .slice (some P) 16 c, .slice (some Q) 16 d], .int .u64 4294967299, .int .i64 2] W (Gives1 W mB (.int .i64 0)) from by
    have h := rfill_any mA 4294967299 2 P Q c d W h ⟨by decide, by decide⟩
    rw [shown_facts.2.1, shown_facts.2.2.1] at h
    exact h)
  have hA := Lib.hid (fun (W : World) (P Q : Addr) (c d : Nat) (h : Sits W mB P Q c d) => show Calls Try.prog 12 #[.agg #[.int .i64 16, .slice (some P) 16 c, .slice (some Q) 16 d], .int .i64 0, .int .i64 5] W (Tolds W [4294967296, 4294967299] 0) from by
    have h := all_any mB P Q c d 0 5 W h mB_wf
    unfold mcs at h
    rw [shown_facts.2.2.2.2.1, shown_facts.2.2.2.2.2.1, shown_facts.2.2.2.1] at h
    exact h)
  have hO := Lib.hid (fun (W : World) (P Q : Addr) (c d : Nat) (h : Sits W mB P Q c d) => show Calls Try.prog 20 #[.agg #[.int .i64 16, .slice (some P) 16 c, .slice (some Q) 16 d], .int .i64 0, .int .i64 5] W (Tolds W [4294967296] 0) from by
    have h := objects_any mB P Q c d 0 5 W h mB_wf
    unfold mcs at h
    rw [shown_facts.2.2.2.2.1, shown_facts.2.2.2.2.2.2, shown_facts.2.2.2.1] at h
    exact h)
  go_enter Try.func10, Try.ntmps10
  go_wp2
  go_region
  all_goals
    go_wp2_with (fail)
    refine calls_at (fun V hV => ?_)
    obtain ⟨U0, B0, B1, B2⟩ := three hV
    clear hV
    refine (hP.out V _ _ (m16_sits V _ _ (by first | exact row_of_blk B0 | exact row_of_blk B1 | exact row_of_blk B2) (by first | exact row_of_blk B0 | exact row_of_blk B1 | exact row_of_blk B2))).mono ?_
    rintro e w2 ⟨P', Q', c', d', rfl, s2, h2⟩
    rw [shown_facts.2.2.1]
    have U2 := U0.trans h2
    first
      | (have D2 := B0.up h2
         have s3 := s2.far3 D2 (.int .i64 (16 : Nat)) (.slice (some P') 16 c') (.slice (some Q') 16 d')
         have D2c := D2.cell
         have D2f := D2.frozen
         have D2l := D2.lt
         go_wp2_with (fail)
         refine (hF.out _ P' Q' c' d' s3).mono ?_
         rintro e w4 ⟨P5, Q5, c5, d5, rfl, s4, h4⟩
         rw [shown_facts.2.2.2.1]
         have D4 := (D2.set3 (.int .i64 (16 : Nat)) (.slice (some P') 16 c') (.slice (some Q') 16 d')).up h4
         have U4 := (U2.set3 (g := w.heap.size) (by omega) (.int .i64 (16 : Nat)) (.slice (some P') 16 c') (.slice (some Q') 16 d')).trans h4
         have s5 := Lib.hid (s4.far3 D4 (.int .i64 (16 : Nat)) (.slice (some P5) 16 c5) (.slice (some Q5) 16 d5))
         have D5 := D4.set3 (.int .i64 (16 : Nat)) (.slice (some P5) 16 c5) (.slice (some Q5) 16 d5)
         have U5 := U4.set3 (g := w.heap.size) (by omega) (.int .i64 (16 : Nat)) (.slice (some P5) 16 c5) (.slice (some Q5) 16 d5)
         have D4c := D4.cell
         have D4f := D4.frozen
         have D4l := D4.lt
         clear D2 D2c D2f D2l h2 h4 U2 B0 B1 B2 U0 U4 D4 s2 s3 s4
         go_wp2_with (fail)
         refine (hA.out _ P5 Q5 c5 d5 s5.out).mono ?_
         rintro e w6 ⟨v, rfl, hl, h6⟩
         obtain ⟨g6, cap6, rfl, r6⟩ := rd_two hl
         have D6 := D5.up h6
         have U6 := U5.trans h6
         have s6 := Lib.hid (s5.out.up h6)
         have D6c := D6.cell
         have D6l := D6.lt
         clear D4c D4f D4l D5 U5 h6 hl s5
         go_wp2_with (fail)
         refine (hO.out _ P5 Q5 c5 d5 s6.out).mono ?_
         rintro e w8 ⟨v, rfl, hl, h8⟩
         obtain ⟨g8, cap8, rfl, r8⟩ := rd_one hl
         have q6 := (r6.up h8).at_ 1 (by decide)
         have q8 := r8.at_ 0 (by decide)
         have U8 := U6.trans h8
         clear D6 D6c D6l U6 h8 hl s6 r6 r8
         rw [add_zero'] at q6 q8
         simp at q6 q8
         go_wp2
         go_ret
         exact ⟨rfl, U8⟩)
      | (have D2 := B1.up h2
         have s3 := s2.far3 D2 (.int .i64 (16 : Nat)) (.slice (some P') 16 c') (.slice (some Q') 16 d')
         have D2c := D2.cell
         have D2f := D2.frozen
         have D2l := D2.lt
         go_wp2_with (fail)
         refine (hF.out _ P' Q' c' d' s3).mono ?_
         rintro e w4 ⟨P5, Q5, c5, d5, rfl, s4, h4⟩
         rw [shown_facts.2.2.2.1]
         have D4 := (D2.set3 (.int .i64 (16 : Nat)) (.slice (some P') 16 c') (.slice (some Q') 16 d')).up h4
         have U4 := (U2.set3 (g := (w.heap.size + 1)) (by omega) (.int .i64 (16 : Nat)) (.slice (some P') 16 c') (.slice (some Q') 16 d')).trans h4
         have s5 := Lib.hid (s4.far3 D4 (.int .i64 (16 : Nat)) (.slice (some P5) 16 c5) (.slice (some Q5) 16 d5))
         have D5 := D4.set3 (.int .i64 (16 : Nat)) (.slice (some P5) 16 c5) (.slice (some Q5) 16 d5)
         have U5 := U4.set3 (g := (w.heap.size + 1)) (by omega) (.int .i64 (16 : Nat)) (.slice (some P5) 16 c5) (.slice (some Q5) 16 d5)
         have D4c := D4.cell
         have D4f := D4.frozen
         have D4l := D4.lt
         clear D2 D2c D2f D2l h2 h4 U2 B0 B1 B2 U0 U4 D4 s2 s3 s4
         go_wp2_with (fail)
         refine (hA.out _ P5 Q5 c5 d5 s5.out).mono ?_
         rintro e w6 ⟨v, rfl, hl, h6⟩
         obtain ⟨g6, cap6, rfl, r6⟩ := rd_two hl
         have D6 := D5.up h6
         have U6 := U5.trans h6
         have s6 := Lib.hid (s5.out.up h6)
         have D6c := D6.cell
         have D6l := D6.lt
         clear D4c D4f D4l D5 U5 h6 hl s5
         go_wp2_with (fail)
         refine (hO.out _ P5 Q5 c5 d5 s6.out).mono ?_
         rintro e w8 ⟨v, rfl, hl, h8⟩
         obtain ⟨g8, cap8, rfl, r8⟩ := rd_one hl
         have q6 := (r6.up h8).at_ 1 (by decide)
         have q8 := r8.at_ 0 (by decide)
         have U8 := U6.trans h8
         clear D6 D6c D6l U6 h8 hl s6 r6 r8
         rw [add_zero'] at q6 q8
         simp at q6 q8
         go_wp2
         go_ret
         exact ⟨rfl, U8⟩)
      | (have D2 := B2.up h2
         have s3 := s2.far3 D2 (.int .i64 (16 : Nat)) (.slice (some P') 16 c') (.slice (some Q') 16 d')
         have D2c := D2.cell
         have D2f := D2.frozen
         have D2l := D2.lt
         go_wp2_with (fail)
         refine (hF.out _ P' Q' c' d' s3).mono ?_
         rintro e w4 ⟨P5, Q5, c5, d5, rfl, s4, h4⟩
         rw [shown_facts.2.2.2.1]
         have D4 := (D2.set3 (.int .i64 (16 : Nat)) (.slice (some P') 16 c') (.slice (some Q') 16 d')).up h4
         have U4 := (U2.set3 (g := (w.heap.size + 1 + 1)) (by omega) (.int .i64 (16 : Nat)) (.slice (some P') 16 c') (.slice (some Q') 16 d')).trans h4
         have s5 := Lib.hid (s4.far3 D4 (.int .i64 (16 : Nat)) (.slice (some P5) 16 c5) (.slice (some Q5) 16 d5))
         have D5 := D4.set3 (.int .i64 (16 : Nat)) (.slice (some P5) 16 c5) (.slice (some Q5) 16 d5)
         have U5 := U4.set3 (g := (w.heap.size + 1 + 1)) (by omega) (.int .i64 (16 : Nat)) (.slice (some P5) 16 c5) (.slice (some Q5) 16 d5)
         have D4c := D4.cell
         have D4f := D4.frozen
         have D4l := D4.lt
         clear D2 D2c D2f D2l h2 h4 U2 B0 B1 B2 U0 U4 D4 s2 s3 s4
         go_wp2_with (fail)
         refine (hA.out _ P5 Q5 c5 d5 s5.out).mono ?_
         rintro e w6 ⟨v, rfl, hl, h6⟩
         obtain ⟨g6, cap6, rfl, r6⟩ := rd_two hl
         have D6 := D5.up h6
         have U6 := U5.trans h6
         have s6 := Lib.hid (s5.out.up h6)
         have D6c := D6.cell
         have D6l := D6.lt
         clear D4c D4f D4l D5 U5 h6 hl s5
         go_wp2_with (fail)
         refine (hO.out _ P5 Q5 c5 d5 s6.out).mono ?_
         rintro e w8 ⟨v, rfl, hl, h8⟩
         obtain ⟨g8, cap8, rfl, r8⟩ := rd_one hl
         have q6 := (r6.up h8).at_ 1 (by decide)
         have q8 := r8.at_ 0 (by decide)
         have U8 := U6.trans h8
         clear D6 D6c D6l U6 h8 hl s6 r6 r8
         rw [add_zero'] at q6 q8
         simp at q6 q8
         go_wp2
         go_ret
         exact ⟨rfl, U8⟩)
end Go.Proofs.Ytmjadmoadedghaa
