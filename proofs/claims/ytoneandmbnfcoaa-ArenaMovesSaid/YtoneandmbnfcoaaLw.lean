/- What stands at the head of all statements on memory: the document's example; is memory right, of 200 words at most? -/
import Derived.Test.YtoneandmbnfcoaaOpn
namespace Go.Proofs.Ytoneandmbnfcoaa
open Go.ChangeShapes Go.WideShapes Go.ChangeAt Go.RowKit
set_option linter.unusedVariables false
set_option linter.unusedSimpArgs false

theorem Sits.cast {w : World} {m m' : Me} {p q : Addr} {c d : Nat} (h : Sits w m p q c d) (e : m = m') : Sits w m' p q c d := e ▸ h

def m16 : Me := ⟨16, zers 16, zers 16⟩
def m7 : Me := m16.st 8589934595 7
theorem m7_n : m7.n = 16 := by decide +kernel
theorem m7_ld : m7.ld 8589934595 = 7 ∧ m7.lde 8589934595 = 0 ∧ m7.ld 4294967299 = 0 ∧ m7.lde 4294967299 = 0 ∧ m16.lde 8589934595 = 0 := by decide +kernel

set_option maxHeartbeats 2000000 in
theorem shown_any (w : World) : Calls Try.prog 11 #[] w fun e w' => e = .returned (.bool true) ∧ Up w w' := by
  have hN := Lib.hid (fun w => show Calls Try.prog 25 #[.int .i64 16] w (Gives1 w m16 (.int .i64 0)) from new_ok 16 (by decide) (by decide) w)
  have hS := Lib.hid (fun (w : World) (P Q : Addr) (c d : Nat) (h : Sits w m16 P Q c d) => show Calls Try.prog 15 #[.agg #[.int .i64 16, .slice (some P) 16 c, .slice (some Q) 16 d], .int .u64 8589934595, .int .u64 7] w (Gives1 w m7 (.int .i64 0)) from by
    have := store_any m16 8589934595 7 P Q c d w h ⟨by decide, by decide⟩
    rw [m7_ld.2.2.2.2] at this
    exact this)
  have hL := Lib.hid (fun (w : World) (P Q : Addr) (c d : Nat) (h : Sits w m7 P Q c d) => show Calls Try.prog 13 #[.agg #[.int .i64 16, .slice (some P) 16 c, .slice (some Q) 16 d], .int .u64 8589934595] w (fun e w' => e = .returned (.tuple #[.int .u64 7, .int .i64 0]) ∧ Up w w') from by
    have := load_any m7 8589934595 P Q c d w h ⟨by decide, by decide⟩
    rw [m7_ld.1, m7_ld.2.1, m7_n] at this
    exact this)
  have hL2 := Lib.hid (fun (w : World) (P Q : Addr) (c d : Nat) (h : Sits w m7 P Q c d) => show Calls Try.prog 13 #[.agg #[.int .i64 16, .slice (some P) 16 c, .slice (some Q) 16 d], .int .u64 4294967299] w (fun e w' => e = .returned (.tuple #[.int .u64 0, .int .i64 0]) ∧ Up w w') from by
    have := load_any m7 4294967299 P Q c d w h ⟨by decide, by decide⟩
    rw [m7_ld.2.2.1, m7_ld.2.2.2.1, m7_n] at this
    exact this)
  go_enter Try.func11, Try.ntmps11
  go_wp2_with (fail)
  refine (hN.out _).mono ?_
  rintro e w1 ⟨P, Q, c, d, rfl, s1, h1⟩
  rw [show m16.n = 16 from rfl]
  go_wp2_with (fail)
  refine (hS.out _ P Q c d (s1.up ((Up.refl _).alloc _))).mono ?_
  rintro e w2 ⟨P', Q', c', d', rfl, s2, h2⟩
  rw [m7_n]
  have D2 := (Blk.new w1 25 _).up h2
  have U2 : Up w w2 := (h1.alloc _).trans h2
  have D2c := D2.cell
  have D2f := D2.frozen
  have hl : w.heap.size ≤ w1.heap.size := h1.size
  clear h1 h2 s1
  go_wp2_with (fail)
  have s3 := s2.far3 D2 (.int .i64 (16 : Nat)) (.slice (some P') 16 c') (.slice (some Q') 16 d')
  have D3 := D2.set3 (.int .i64 (16 : Nat)) (.slice (some P') 16 c') (.slice (some Q') 16 d')
  have U3 := U2.set3 hl (.int .i64 (16 : Nat)) (.slice (some P') 16 c') (.slice (some Q') 16 d')
  refine (hL.out _ P' Q' c' d' s3).mono ?_
  rintro e w4 ⟨rfl, h4⟩
  have D4 := D3.up h4
  have s4 := s3.up h4
  have U4 := U3.trans h4
  have D4c := D4.cell
  clear D2 D3 D2c D2f s2 s3 U2 U3 h4
  go_wp2_with (fail)
  refine (hL2.out _ P' Q' c' d' s4).mono ?_
  rintro e w5 ⟨rfl, h5⟩
  go_wp2
  go_ret
  exact ⟨rfl, U4.trans h5⟩

def few (N : Int) (n0 n1 : Nat) : Bool := rt N n0 n1 && decide (N ≤ 200)
set_option maxHeartbeats 2000000 in
theorem few_any (N : Int) (A0 A1 : Option Addr) (n0 n1 c0 c1 : Nat) (w : World) :
    Calls Try.prog 12 #[.agg #[.int .i64 N, .slice A0 n0 c0, .slice A1 n1 c1]] w fun e w' => e = .returned (.bool (few N n0 n1)) ∧ Up w w' := by
  have hr := fun w => rright_any N A0 A1 n0 n1 c0 c1 w
  unfold few
  cases hb : rt N n0 n1
  · rw [hb] at hr
    rw [Bool.false_and]
    have hr := Lib.hid hr
    clear hb
    go_enter Try.func12, Try.ntmps12
    go_wp2_with (fail)
    refine (hr.out _).mono ?_
    rintro e w1 ⟨rfl, h1⟩
    go_wp2
    go_ret
    exact ⟨rfl, ((Up.refl _).alloc _).trans h1⟩
  · rw [hb] at hr
    rw [Bool.true_and]
    have hr := Lib.hid hr
    clear hb
    generalize hd : decide (N ≤ 200) = b
    go_enter Try.func12, Try.ntmps12
    go_wp2_with (fail)
    refine (hr.out _).mono ?_
    rintro e w1 ⟨rfl, h1⟩
    have D1c := ((Blk.new w 25 _).up h1).cell
    go_wp2
    go_ret
    exact ⟨rfl, ((Up.refl _).alloc _).trans h1⟩
theorem few_is {N : Int} {n0 n1 : Nat} (h : few N n0 n1 = true) : N = n0 ∧ n0 = n1 ∧ 16 ≤ n0 ∧ n0 ≤ 200 := by
  unfold few at h
  rw [Bool.and_eq_true] at h
  obtain ⟨h1, h2⟩ := h
  obtain ⟨a, b, c, d⟩ := of_decide_eq_true h1
  have e := of_decide_eq_true h2
  omega
end Go.Proofs.Ytoneandmbnfcoaa
