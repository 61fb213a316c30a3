/- The document's word on what is over there; the example that stands at the head of all statements; which rooms are asked about. -/
import Derived.Test.YtgcpkgogjcgfbaaTw5
namespace Go.Proofs.Ytgcpkgogjcgfbaa
open Go.Joins Go.ChangeShapes Go.WideShapes Go.ChangeAt Go.RowKit Go.Deep
set_option linter.unusedVariables false
set_option linter.unusedSimpArgs false

set_option maxRecDepth 100000 in
set_option maxHeartbeats 2000000 in
theorem rover_any (n s a l x y A : Int) (MA MB : Value) (w : World) (hA : U64 A) :
    Calls Try.prog 14 #[rov n MA MB s a l x y, .int .u64 A] w fun e w' => e = .returned (.bool (ovb s A)) ∧ Up w w' := by
  have hw := Lib.hid (fun w => rwhere A hA.1 hA.2 w)
  unfold ovb
  generalize whs A = s1 at hw ⊢
  generalize whp A = p1 at hw
  generalize whb A = b1 at hw ⊢
  have U0 : Up w (w.alloc (.cells (roc n MA MB s a l x y) 31)) := (Up.refl w).alloc _
  cases b1
  · go_enter Try.func14, Try.ntmps14
    go_wp2_with (fail)
    refine (hw.out _).mono ?_
    rintro e w1 ⟨rfl, rfl⟩
    go_wp2
    go_ret
    exact ⟨rfl, U0⟩
  by_cases h : s1 = s
  · have q : (s1 == s) = true := beq_iff_eq.2 h
    rw [decide_eq_true h]
    clear h
    go_enter Try.func14, Try.ntmps14
    go_wp2_with (fail)
    refine (hw.out _).mono ?_
    rintro e w1 ⟨rfl, rfl⟩
    go_wp2
    go_ret
    exact ⟨rfl, U0⟩
  · have q : (s1 == s) = false := beq_eq_false_iff_ne.2 h
    rw [decide_eq_false h]
    clear h
    go_enter Try.func14, Try.ntmps14
    go_wp2_with (fail)
    refine (hw.out _).mono ?_
    rintro e w1 ⟨rfl, rfl⟩
    go_wp2
    go_ret
    exact ⟨rfl, U0⟩

theorem fewr_ok (m : Me) (s a l x y : Int) (h : m.ok) (hn : m.n ≤ 200) (hr : rgt s a l) (hl : l = m.n) (hp : (x = 0 ∧ y = 0) ∨ (0 ≤ x ∧ x ≤ y ∧ y ≤ a)) : fewr m.n m.n m.n s a l x y = true := by
  have h16 := h.1
  have e1 : rt m.n m.n m.n = true := decide_eq_true ⟨by omega, by omega, rfl, rfl⟩
  have e2 : rgb s a l = true := decide_eq_true hr
  have e3 : decide (l = m.n) = true := decide_eq_true hl
  have e4 : pcb a x y = true := decide_eq_true hp
  have e5 : decide ((m.n : Int) ≤ 200) = true := decide_eq_true (by omega)
  unfold fewr rob
  rw [e1, e2, e3, e4, e5]
  rfl
theorem rob_ok (m : Me) (s a l x y : Int) (h : m.ok) (hr : rgt s a l) (hl : l = m.n) (hp : (x = 0 ∧ y = 0) ∨ (0 ≤ x ∧ x ≤ y ∧ y ≤ a)) : rob m.n m.n m.n s a l x y = true := by
  have h16 := h.1
  have h2 := h.2.1
  have e1 : rt m.n m.n m.n = true := decide_eq_true ⟨by omega, by omega, rfl, rfl⟩
  have e2 : rgb s a l = true := decide_eq_true hr
  have e3 : decide (l = m.n) = true := decide_eq_true hl
  have e4 : pcb a x y = true := decide_eq_true hp
  unfold rob
  rw [e1, e2, e3, e4]
  rfl
section
variable {H : Type} {enc : TypeId × Value → H} {w : World}
set_option maxRecDepth 100000 in
theorem words_at {r : Reach} {b0 : Nat} {v : Value} {d : DataW H} {p : List MemPlace} (hv : Value.okWide Try.prog w r b0 22 v) (h : DataW.Trod enc Try.prog w 0 (fun _ => true) true 22 v d p) : ∃ A n c xs, v = .slice A n c ∧ SlOk w A n c xs := by
  obtain ⟨a, len, cap, rfl⟩ := okWide_slice Try.underlying22 hv
  obtain ⟨fuel, hf⟩ := h
  exact words_open (x := (d, p)) hf
end
end Go.Proofs.Ytgcpkgogjcgfbaa
