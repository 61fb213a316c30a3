/- The document's answers for memory (dovecoteref03): contracts of There and Load. -/
import Derived.Test.YtgcpkgogjcgfbaaAr4
namespace Go.Proofs.Ytgcpkgogjcgfbaa
open Go.ChangeShapes Go.WideShapes Go.ChangeAt Go.RowKit
set_option linter.unusedVariables false
set_option linter.unusedSimpArgs false

set_option maxHeartbeats 1000000 in
theorem rthere_yes0 (n k : Nat) (a : Int) (P Q : Addr) (c d : Nat) (w : World) (ha : U64 a) (hl : Leads a 0 k) (hp : k < n) :
    Calls Try.prog 51 #[.agg #[.int .i64 n, .slice (some P) n c, .slice (some Q) n d], .int .u64 a] w fun e w' => e = .returned (.bool true) ∧ Up w w' := by
  have hw := Lib.hid (fun w => rwhere_yes a 0 k ha hl w)
  clear ha hl
  have hd : decide (k < n) = true := by simp; omega
  go_enter Try.func51, Try.ntmps51
  go_wp2_with (fail)
  refine (hw.out _).mono ?_
  rintro e w1 ⟨rfl, rfl⟩
  go_wp2
  go_ret
  exact ⟨rfl, (Up.refl _).alloc _⟩

set_option maxHeartbeats 1000000 in
theorem rthere_far0 (n k : Nat) (a : Int) (P Q : Addr) (c d : Nat) (w : World) (ha : U64 a) (hl : Leads a 0 k) (hp : n ≤ k) :
    Calls Try.prog 51 #[.agg #[.int .i64 n, .slice (some P) n c, .slice (some Q) n d], .int .u64 a] w fun e w' => e = .returned (.bool false) ∧ Up w w' := by
  have hw := Lib.hid (fun w => rwhere_yes a 0 k ha hl w)
  clear ha hl
  have hd : decide (k < n) = false := by simp; omega
  go_enter Try.func51, Try.ntmps51
  go_wp2_with (fail)
  refine (hw.out _).mono ?_
  rintro e w1 ⟨rfl, rfl⟩
  go_wp2
  go_ret
  exact ⟨rfl, (Up.refl _).alloc _⟩

set_option maxHeartbeats 1000000 in
theorem rthere_yes1 (n k : Nat) (a : Int) (P Q : Addr) (c d : Nat) (w : World) (ha : U64 a) (hl : Leads a 1 k) (hp : k < n) :
    Calls Try.prog 51 #[.agg #[.int .i64 n, .slice (some P) n c, .slice (some Q) n d], .int .u64 a] w fun e w' => e = .returned (.bool true) ∧ Up w w' := by
  have hw := Lib.hid (fun w => rwhere_yes a 1 k ha hl w)
  clear ha hl
  have hd : decide (k < n) = true := by simp; omega
  go_enter Try.func51, Try.ntmps51
  go_wp2_with (fail)
  refine (hw.out _).mono ?_
  rintro e w1 ⟨rfl, rfl⟩
  go_wp2
  go_ret
  exact ⟨rfl, (Up.refl _).alloc _⟩

set_option maxHeartbeats 1000000 in
theorem rthere_far1 (n k : Nat) (a : Int) (P Q : Addr) (c d : Nat) (w : World) (ha : U64 a) (hl : Leads a 1 k) (hp : n ≤ k) :
    Calls Try.prog 51 #[.agg #[.int .i64 n, .slice (some P) n c, .slice (some Q) n d], .int .u64 a] w fun e w' => e = .returned (.bool false) ∧ Up w w' := by
  have hw := Lib.hid (fun w => rwhere_yes a 1 k ha hl w)
  clear ha hl
  have hd : decide (k < n) = false := by simp; omega
  go_enter Try.func51, Try.ntmps51
  go_wp2_with (fail)
  refine (hw.out _).mono ?_
  rintro e w1 ⟨rfl, rfl⟩
  go_wp2
  go_ret
  exact ⟨rfl, (Up.refl _).alloc _⟩

set_option maxHeartbeats 1000000 in
theorem rthere_none (n : Nat) (a : Int) (P Q : Addr) (c d : Nat) (w : World) (ha : U64 a) (hl : whb a = false) :
    Calls Try.prog 51 #[.agg #[.int .i64 n, .slice (some P) n c, .slice (some Q) n d], .int .u64 a] w fun e w' => e = .returned (.bool false) ∧ Up w w' := by
  have hw := Lib.hid (fun w => rwhere_not a ha hl w)
  clear ha hl
  go_enter Try.func51, Try.ntmps51
  go_wp2_with (fail)
  refine (hw.out _).mono ?_
  rintro e w1 ⟨rfl, rfl⟩
  go_wp2
  go_ret
  exact ⟨rfl, (Up.refl _).alloc _⟩

/-- Is it there? -/
theorem rthere_any (m : Me) (a : Int) (P Q : Addr) (c d : Nat) (w : World) (ha : U64 a) :
    Calls Try.prog 51 #[.agg #[.int .i64 m.n, .slice (some P) m.n c, .slice (some Q) m.n d], .int .u64 a] w fun e w' => e = .returned (.bool (decide (m.there a))) ∧ Up w w' := by
  rcases leads_or a ha with ⟨s, p, hl⟩ | hb
  · obtain ⟨e1, e2, e3⟩ := hl.is
    obtain ⟨k, rfl⟩ : ∃ k : Nat, p = k := ⟨p.toNat, by have := hl.2.1; omega⟩
    by_cases h : k < m.n
    · rw [show decide (m.there a) = true from decide_eq_true ⟨e3, by omega⟩]
      rcases hl.1 with rfl | rfl
      · exact rthere_yes0 m.n k a P Q c d w ha hl h
      · exact rthere_yes1 m.n k a P Q c d w ha hl h
    · rw [show decide (m.there a) = false from decide_eq_false (fun q => by have := q.2; omega)]
      rcases hl.1 with rfl | rfl
      · exact rthere_far0 m.n k a P Q c d w ha hl (by omega)
      · exact rthere_far1 m.n k a P Q c d w ha hl (by omega)
  · rw [show decide (m.there a) = false from decide_eq_false (fun q => by have := q.1; rw [hb] at this; cases this)]
    exact rthere_none m.n a P Q c d w ha hb

set_option maxHeartbeats 1000000 in
theorem rload_at0 (n : Nat) (xs ys : List Int) (a : Int) (k : Nat) (P Q : Addr) (c d : Nat) (w : World) (hm : Sits w ⟨n, xs, ys⟩ P Q c d) (ha : U64 a) (hl : Leads a 0 k) (hp : k < n) :
    Calls Try.prog 29 #[.agg #[.int .i64 n, .slice (some P) n c, .slice (some Q) n d], .int .u64 a] w fun e w' => e = .returned (.tuple #[.int .u64 (xs.getD k 0), .int .i64 0]) ∧ Up w w' := by
  have hw := Lib.hid (fun w => rwhere_yes a 0 k ha hl w)
  have ht := Lib.hid (fun w => rthere_yes0 n k a P Q c d w ha hl hp)
  have hx := Lib.hid hm.1.2.2.1
  have hR := hm.2.2.2.2.2.1
  simp only at hx hR
  clear ha hl hm
  go_enter Try.func29, Try.ntmps29
  go_wp2_with (fail)
  refine (ht.out _).mono ?_
  rintro e w1 ⟨rfl, h1⟩
  have D1 := (Blk.new w 25 _).up h1
  have U1 : Up w w1 := ((Up.refl w).alloc _).trans h1
  clear h1
  have g1 := (hR.up U1).at_ k (by rw [hx.out]; exact hp)
  have D1c := D1.cell
  clear hR
  go_wp2_with (fail)
  refine (hw.out _).mono ?_
  rintro e w2 ⟨rfl, rfl⟩
  go_wp2
  go_ret2
  exact ⟨rfl, U1⟩

set_option maxHeartbeats 1000000 in
theorem rload_at1 (n : Nat) (xs ys : List Int) (a : Int) (k : Nat) (P Q : Addr) (c d : Nat) (w : World) (hm : Sits w ⟨n, xs, ys⟩ P Q c d) (ha : U64 a) (hl : Leads a 1 k) (hp : k < n) :
    Calls Try.prog 29 #[.agg #[.int .i64 n, .slice (some P) n c, .slice (some Q) n d], .int .u64 a] w fun e w' => e = .returned (.tuple #[.int .u64 (ys.getD k 0), .int .i64 0]) ∧ Up w w' := by
  have hw := Lib.hid (fun w => rwhere_yes a 1 k ha hl w)
  have ht := Lib.hid (fun w => rthere_yes1 n k a P Q c d w ha hl hp)
  have hx := Lib.hid hm.1.2.2.2
  have hR := hm.2.2.2.2.2.2
  simp only at hx hR
  clear ha hl hm
  go_enter Try.func29, Try.ntmps29
  go_wp2_with (fail)
  refine (ht.out _).mono ?_
  rintro e w1 ⟨rfl, h1⟩
  have D1 := (Blk.new w 25 _).up h1
  have U1 : Up w w1 := ((Up.refl w).alloc _).trans h1
  clear h1
  have g1 := (hR.up U1).at_ k (by rw [hx.out]; exact hp)
  have D1c := D1.cell
  clear hR
  go_wp2_with (fail)
  refine (hw.out _).mono ?_
  rintro e w2 ⟨rfl, rfl⟩
  go_wp2
  go_ret2
  exact ⟨rfl, U1⟩

set_option maxHeartbeats 1000000 in
theorem rload_no (m : Me) (a : Int) (P Q : Addr) (c d : Nat) (w : World) (ha : U64 a) (h : ¬ m.there a) :
    Calls Try.prog 29 #[.agg #[.int .i64 m.n, .slice (some P) m.n c, .slice (some Q) m.n d], .int .u64 a] w fun e w' => e = .returned (.tuple #[.int .u64 0, .int .i64 2]) ∧ Up w w' := by
  have ht := fun w => rthere_any m a P Q c d w ha
  rw [decide_eq_false h] at ht
  have ht := Lib.hid ht
  clear ha h
  go_enter Try.func29, Try.ntmps29
  go_wp2_with (fail)
  refine (ht.out _).mono ?_
  rintro e w1 ⟨rfl, h1⟩
  go_wp2
  go_ret2
  exact ⟨rfl, ((Up.refl w).alloc _).trans h1⟩

theorem rload_any (m : Me) (a : Int) (P Q : Addr) (c d : Nat) (w : World) (hm : Sits w m P Q c d) (ha : U64 a) :
    Calls Try.prog 29 #[.agg #[.int .i64 m.n, .slice (some P) m.n c, .slice (some Q) m.n d], .int .u64 a] w fun e w' => e = .returned (.tuple #[.int .u64 (m.ld a), .int .i64 (m.lde a)]) ∧ Up w w' := by
  by_cases h : m.there a
  · rw [show m.ld a = (m.sp (whs a)).getD (whp a).toNat 0 from if_pos h, show m.lde a = 0 from if_pos h]
    rcases leads_or a ha with ⟨s, p, hl⟩ | hb
    · obtain ⟨e1, e2, e3⟩ := hl.is
      obtain ⟨k, rfl⟩ : ∃ k : Nat, p = k := ⟨p.toNat, by have := hl.2.1; omega⟩
      have hp : k < m.n := by have := h.2; omega
      rw [e1, e2, Int.toNat_natCast]
      rcases hl.1 with rfl | rfl
      · exact rload_at0 m.n m.xs m.ys a k P Q c d w hm ha hl hp
      · exact rload_at1 m.n m.xs m.ys a k P Q c d w hm ha hl hp
    · exact absurd h.1 (by rw [hb]; decide)
  · rw [show m.ld a = 0 from if_neg h, show m.lde a = 2 from if_neg h]
    exact rload_no m a P Q c d w ha h
end Go.Proofs.Ytgcpkgogjcgfbaa
