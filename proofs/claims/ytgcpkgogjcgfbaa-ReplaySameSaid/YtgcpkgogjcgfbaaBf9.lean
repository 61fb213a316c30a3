/- Rooms that are right, and rooms that are the same (dovecoteref08); which rooms are asked about: contracts. -/
import Derived.Test.YtgcpkgogjcgfbaaBf1
import Derived.BigQuiet
import Derived.Deep.QuietTactic
namespace Go.Proofs.Ytgcpkgogjcgfbaa
open Go.Joins Go.ChangeShapes Go.WideShapes Go.ChangeAt Go.RowKit Go.Deep
set_option linter.unusedVariables false
set_option linter.unusedSimpArgs false

/-- A right piece. -/
def pcb (a x y : Int) : Bool := decide ((x = 0 ∧ y = 0) ∨ (0 ≤ x ∧ x ≤ y ∧ y ≤ a))
/-- Is a room right? -/
def rob (N : Int) (n0 n1 : Nat) (s a l x y : Int) : Bool := rt N n0 n1 && (rgb s a l && (decide (l = N) && pcb a x y))

set_option maxRecDepth 100000 in
set_option maxHeartbeats 2000000 in
theorem roright_any (N s a l x y : Int) (A0 A1 : Option Addr) (n0 n1 c0 c1 : Nat) (w : World) :
    Calls Try.prog 16 #[rov N (.slice A0 n0 c0) (.slice A1 n1 c1) s a l x y] w fun e w' => e = .returned (.bool (rob N n0 n1 s a l x y)) ∧ Up w w' := by
  have hm := Lib.hid (fun w => rmright_any N A0 A1 n0 n1 c0 c1 w)
  have hb := Lib.hid (fun w => rright s a l w)
  unfold rob
  generalize rt N n0 n1 = p at hm ⊢
  generalize rgb s a l = q at hb ⊢
  cases p
  · go_enter Try.func16, Try.ntmps16
    go_wp2_with (fail)
    refine (hm.out _).mono ?_
    rintro e w1 ⟨rfl, k1⟩
    have X1 := (Blk.new w 31 _).up k1
    have U1 := ((Up.refl w).alloc _).trans k1
    have X1c := X1.cell
    clear k1
    go_wp2_with (fail)
    refine (hb.out _).mono ?_
    rintro e w2 ⟨rfl, k2⟩
    have X2 := X1.up k2
    have U2 := U1.trans k2
    clear k2 X1 X1c U1
    have X2c := X2.cell
    go_wp2
    go_ret
    exact ⟨rfl, U2⟩
  cases q
  · go_enter Try.func16, Try.ntmps16
    go_wp2_with (fail)
    refine (hm.out _).mono ?_
    rintro e w1 ⟨rfl, k1⟩
    have X1 := (Blk.new w 31 _).up k1
    have U1 := ((Up.refl w).alloc _).trans k1
    have X1c := X1.cell
    clear k1
    go_wp2_with (fail)
    refine (hb.out _).mono ?_
    rintro e w2 ⟨rfl, k2⟩
    have X2 := X1.up k2
    have U2 := U1.trans k2
    clear k2 X1 X1c U1
    have X2c := X2.cell
    go_wp2
    go_ret
    exact ⟨rfl, U2⟩
  by_cases h : l = N
  · rw [decide_eq_true h]
    have hl : (l != N) = false := by simp [h]
    clear h
    by_cases e : x = 0 ∧ y = 0
    · rw [show pcb a x y = true from decide_eq_true (.inl e)]
      obtain ⟨rfl, rfl⟩ := e
      go_enter Try.func16, Try.ntmps16
      go_wp2_with (fail)
      refine (hm.out _).mono ?_
      rintro e w1 ⟨rfl, k1⟩
      have X1 := (Blk.new w 31 _).up k1
      have U1 := ((Up.refl w).alloc _).trans k1
      have X1c := X1.cell
      clear k1
      go_wp2_with (fail)
      refine (hb.out _).mono ?_
      rintro e w2 ⟨rfl, k2⟩
      have X2 := X1.up k2
      have U2 := U1.trans k2
      clear k2 X1 X1c U1
      have X2c := X2.cell
      go_wp2
      go_ret
      exact ⟨rfl, U2⟩
    · unfold pcb
      by_cases e0 : x = 0
      · have e1 : (y == 0) = false := beq_eq_false_iff_ne.mpr (fun q => e ⟨e0, q⟩)
        subst e0
        by_cases d1 : 0 ≤ y
        · by_cases d2 : y ≤ a
          · rw [decide_eq_true (.inr ⟨Int.le_refl _, d1, d2⟩)]
            clear e
            go_enter Try.func16, Try.ntmps16
            go_wp2_with (fail)
            refine (hm.out _).mono ?_
            rintro e w1 ⟨rfl, k1⟩
            have X1 := (Blk.new w 31 _).up k1
            have U1 := ((Up.refl w).alloc _).trans k1
            have X1c := X1.cell
            clear k1
            go_wp2_with (fail)
            refine (hb.out _).mono ?_
            rintro e w2 ⟨rfl, k2⟩
            have X2 := X1.up k2
            have U2 := U1.trans k2
            clear k2 X1 X1c U1
            have X2c := X2.cell
            go_wp2
            go_ret
            exact ⟨rfl, U2⟩
          · rw [decide_eq_false (fun q => q.elim e (fun r => d2 r.2.2))]
            have d2' : decide (y ≤ a) = false := decide_eq_false d2
            clear d2 e
            go_enter Try.func16, Try.ntmps16
            go_wp2_with (fail)
            refine (hm.out _).mono ?_
            rintro e w1 ⟨rfl, k1⟩
            have X1 := (Blk.new w 31 _).up k1
            have U1 := ((Up.refl w).alloc _).trans k1
            have X1c := X1.cell
            clear k1
            go_wp2_with (fail)
            refine (hb.out _).mono ?_
            rintro e w2 ⟨rfl, k2⟩
            have X2 := X1.up k2
            have U2 := U1.trans k2
            clear k2 X1 X1c U1
            have X2c := X2.cell
            go_wp2
            go_ret
            exact ⟨rfl, U2⟩
        · rw [decide_eq_false (fun q => q.elim e (fun r => d1 r.2.1))]
          have d1' : decide (0 ≤ y) = false := decide_eq_false d1
          clear d1 e
          go_enter Try.func16, Try.ntmps16
          go_wp2_with (fail)
          refine (hm.out _).mono ?_
          rintro e w1 ⟨rfl, k1⟩
          have X1 := (Blk.new w 31 _).up k1
          have U1 := ((Up.refl w).alloc _).trans k1
          have X1c := X1.cell
          clear k1
          go_wp2_with (fail)
          refine (hb.out _).mono ?_
          rintro e w2 ⟨rfl, k2⟩
          have X2 := X1.up k2
          have U2 := U1.trans k2
          clear k2 X1 X1c U1
          have X2c := X2.cell
          go_wp2
          go_ret
          exact ⟨rfl, U2⟩
      · have e1 : (x == 0) = false := beq_eq_false_iff_ne.mpr e0
        clear e0
        by_cases d0 : 0 ≤ x
        · by_cases d1 : x ≤ y
          · by_cases d2 : y ≤ a
            · rw [decide_eq_true (.inr ⟨d0, d1, d2⟩)]
              clear e
              go_enter Try.func16, Try.ntmps16
              go_wp2_with (fail)
              refine (hm.out _).mono ?_
              rintro e w1 ⟨rfl, k1⟩
              have X1 := (Blk.new w 31 _).up k1
              have U1 := ((Up.refl w).alloc _).trans k1
              have X1c := X1.cell
              clear k1
              go_wp2_with (fail)
              refine (hb.out _).mono ?_
              rintro e w2 ⟨rfl, k2⟩
              have X2 := X1.up k2
              have U2 := U1.trans k2
              clear k2 X1 X1c U1
              have X2c := X2.cell
              go_wp2
              go_ret
              exact ⟨rfl, U2⟩
            · rw [decide_eq_false (fun q => q.elim e (fun r => d2 r.2.2))]
              have d2' : decide (y ≤ a) = false := decide_eq_false d2
              clear d2 e
              go_enter Try.func16, Try.ntmps16
              go_wp2_with (fail)
              refine (hm.out _).mono ?_
              rintro e w1 ⟨rfl, k1⟩
              have X1 := (Blk.new w 31 _).up k1
              have U1 := ((Up.refl w).alloc _).trans k1
              have X1c := X1.cell
              clear k1
              go_wp2_with (fail)
              refine (hb.out _).mono ?_
              rintro e w2 ⟨rfl, k2⟩
              have X2 := X1.up k2
              have U2 := U1.trans k2
              clear k2 X1 X1c U1
              have X2c := X2.cell
              go_wp2
              go_ret
              exact ⟨rfl, U2⟩
          · rw [decide_eq_false (fun q => q.elim e (fun r => d1 r.2.1))]
            have d1' : decide (x ≤ y) = false := decide_eq_false d1
            clear d1 e
            go_enter Try.func16, Try.ntmps16
            go_wp2_with (fail)
            refine (hm.out _).mono ?_
            rintro e w1 ⟨rfl, k1⟩
            have X1 := (Blk.new w 31 _).up k1
            have U1 := ((Up.refl w).alloc _).trans k1
            have X1c := X1.cell
            clear k1
            go_wp2_with (fail)
            refine (hb.out _).mono ?_
            rintro e w2 ⟨rfl, k2⟩
            have X2 := X1.up k2
            have U2 := U1.trans k2
            clear k2 X1 X1c U1
            have X2c := X2.cell
            go_wp2
            go_ret
            exact ⟨rfl, U2⟩
        · rw [decide_eq_false (fun q => q.elim e (fun r => d0 r.1))]
          have d0' : decide (0 ≤ x) = false := decide_eq_false d0
          clear d0 e
          go_enter Try.func16, Try.ntmps16
          go_wp2_with (fail)
          refine (hm.out _).mono ?_
          rintro e w1 ⟨rfl, k1⟩
          have X1 := (Blk.new w 31 _).up k1
          have U1 := ((Up.refl w).alloc _).trans k1
          have X1c := X1.cell
          clear k1
          go_wp2_with (fail)
          refine (hb.out _).mono ?_
          rintro e w2 ⟨rfl, k2⟩
          have X2 := X1.up k2
          have U2 := U1.trans k2
          clear k2 X1 X1c U1
          have X2c := X2.cell
          go_wp2
          go_ret
          exact ⟨rfl, U2⟩
  · rw [decide_eq_false h]
    have hl : (l != N) = true := bne_iff_ne.mpr h
    clear h
    go_enter Try.func16, Try.ntmps16
    go_wp2_with (fail)
    refine (hm.out _).mono ?_
    rintro e w1 ⟨rfl, k1⟩
    have X1 := (Blk.new w 31 _).up k1
    have U1 := ((Up.refl w).alloc _).trans k1
    have X1c := X1.cell
    clear k1
    go_wp2_with (fail)
    refine (hb.out _).mono ?_
    rintro e w2 ⟨rfl, k2⟩
    have X2 := X1.up k2
    have U2 := U1.trans k2
    clear k2 X1 X1c U1
    have X2c := X2.cell
    go_wp2
    go_ret
    exact ⟨rfl, U2⟩

/-- Which rooms are asked about. -/
def fewr (N : Int) (n0 n1 : Nat) (s a l x y : Int) : Bool := rob N n0 n1 s a l x y && decide (N ≤ 200)
set_option maxRecDepth 100000 in
set_option maxHeartbeats 2000000 in
theorem fewr_any (N s a l x y : Int) (A0 A1 : Option Addr) (n0 n1 c0 c1 : Nat) (w : World) :
    Calls Try.prog 8 #[rov N (.slice A0 n0 c0) (.slice A1 n1 c1) s a l x y] w fun e w' => e = .returned (.bool (fewr N n0 n1 s a l x y)) ∧ Up w w' := by
  have hm := Lib.hid (fun w => roright_any N s a l x y A0 A1 n0 n1 c0 c1 w)
  unfold fewr
  generalize rob N n0 n1 s a l x y = p at hm ⊢
  cases p
  · go_enter Try.func8, Try.ntmps8
    go_wp2_with (fail)
    refine (hm.out _).mono ?_
    rintro e w1 ⟨rfl, k1⟩
    have X1 := (Blk.new w 31 (roc N (.slice A0 n0 c0) (.slice A1 n1 c1) s a l x y)).up k1
    have U1 := ((Up.refl w).alloc (.cells (roc N (.slice A0 n0 c0) (.slice A1 n1 c1) s a l x y) 31)).trans k1
    have X1c := X1.cell
    clear k1
    go_wp2
    go_ret
    exact ⟨rfl, U1⟩
  by_cases h : N ≤ 200
  · rw [decide_eq_true h]
    go_enter Try.func8, Try.ntmps8
    go_wp2_with (fail)
    refine (hm.out _).mono ?_
    rintro e w1 ⟨rfl, k1⟩
    have X1 := (Blk.new w 31 (roc N (.slice A0 n0 c0) (.slice A1 n1 c1) s a l x y)).up k1
    have U1 := ((Up.refl w).alloc (.cells (roc N (.slice A0 n0 c0) (.slice A1 n1 c1) s a l x y) 31)).trans k1
    have X1c := X1.cell
    clear k1
    go_wp2
    go_ret
    exact ⟨rfl, U1⟩
  · rw [decide_eq_false h]
    have h' : decide (N ≤ 200) = false := decide_eq_false h
    clear h
    go_enter Try.func8, Try.ntmps8
    go_wp2_with (fail)
    refine (hm.out _).mono ?_
    rintro e w1 ⟨rfl, k1⟩
    have X1 := (Blk.new w 31 (roc N (.slice A0 n0 c0) (.slice A1 n1 c1) s a l x y)).up k1
    have U1 := ((Up.refl w).alloc (.cells (roc N (.slice A0 n0 c0) (.slice A1 n1 c1) s a l x y) 31)).trans k1
    have X1c := X1.cell
    clear k1
    go_wp2
    go_ret
    exact ⟨rfl, U1⟩

set_option maxRecDepth 100000 in
set_option maxHeartbeats 2000000 in
/-- Memory that is the same, and the same numbers. -/
theorem rosame_self (m : Me) (P Q P' Q' : Addr) (c d c' d' : Nat) (s a l x y : Int) (w : World) (h : Sits w m P Q c d) (h' : Sits w m P' Q' c' d') :
    Calls Try.prog 11 #[rov m.n (.slice (some P) m.n c) (.slice (some Q) m.n d) s a l x y, rov m.n (.slice (some P') m.n c') (.slice (some Q') m.n d') s a l x y] w fun e w' => e = .returned (.bool true) ∧ Up w w' := by
  have hm := Lib.hid (fun (W : World) (k : Up w W) => rsame_self m P Q P' Q' c d c' d' W (h.up k) (h'.up k))
  have hb := eq_self s a l
  have ht := fun w => eq_buf x y x y w
  rw [tsame_self] at ht
  clear h h'
  go_enter Try.func11, Try.ntmps11
  go_wp2_with (fail)
  refine calls_at (fun V hV => ?_)
  have U0 : Up w V := by rw [hV]; exact ((Up.refl _).alloc _).alloc _
  have X0 : Blk V w.heap.size 31 (roc m.n (.slice (some P) m.n c) (.slice (some Q) m.n d) s a l x y) := by rw [hV]; exact (Blk.new' w rfl _ _).alloc _
  have Y0 : Blk V (w.heap.size + 1) 31 (roc m.n (.slice (some P') m.n c') (.slice (some Q') m.n d') s a l x y) := by rw [hV]; exact Blk.new' _ (by simp) _ _
  clear hV
  refine (hm.out V U0).mono ?_
  rintro e w1 ⟨rfl, k1⟩
  have X1 := X0.up k1
  have Y1 := Y0.up k1
  have U1 := U0.trans k1
  clear k1 X0 Y0 U0
  have X1c := X1.cell
  have Y1c := Y1.cell
  go_wp2
  go_ret
  exact ⟨rfl, U1⟩
end Go.Proofs.Ytgcpkgogjcgfbaa
