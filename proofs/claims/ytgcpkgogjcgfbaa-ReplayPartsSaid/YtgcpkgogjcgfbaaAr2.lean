/- What is loaded from memory is its word (package arena): contract of Load. -/
import Derived.Test.YtgcpkgogjcgfbaaAr1
namespace Go.Proofs.Ytgcpkgogjcgfbaa
open Go.ChangeShapes Go.WideShapes Go.ChangeAt Go.RowKit
set_option linter.unusedVariables false
set_option linter.unusedSimpArgs false

set_option maxHeartbeats 1000000 in
theorem load_at0 (m : Me) (a p : Int) (P Q : Addr) (c d : Nat) (w : World) (hm : Sits w m P Q c d) (ha : U64 a) (hl : Leads a 0 p) (hp : p < m.n) :
    Calls Try.prog 57 #[.agg #[.int .i64 m.n, .slice (some P) m.n c, .slice (some Q) m.n d], .int .u64 a] w fun e w' => e = .returned (.tuple #[.int .u64 (m.xs.getD p.toNat 0), .int .i64 0]) ∧ Up w w' := by
  have hpl := Lib.hid (fun w => place_yes m.n 1 a 0 p (some P) (some Q) c d hm.1.2.1 (by omega) ha hl ⟨by omega, by omega⟩ w)
  obtain ⟨hs, p0, p1, hE⟩ := hl
  obtain ⟨k, rfl⟩ : ∃ k : Nat, p = k := ⟨p.toNat, by omega⟩
  have hx := Lib.hid hm.1.2.2.1
  have hR := hm.2.2.2.2.2.1
  obtain ⟨n, xs, ys⟩ := m
  clear ha hE hm hs
  simp only at hp hx hR hpl ⊢
  go_enter Try.func57, Try.ntmps57
  go_wp2_with (fail)
  refine (places_any _ _ _ _ _).mono ?_
  rintro e w1 ⟨rfl, h1⟩
  obtain ⟨c1, f1⟩ := bcell h1
  have y1 : w.heap.size < w1.heap.size := by have := h1.size; simp at this; omega
  go_wp2_with (fail)
  refine (hpl.out _).mono ?_
  rintro e w2 ⟨rfl, h2⟩
  obtain ⟨c2, f2⟩ := bcell h2
  have y2 := h2.lt y1
  have g1 := ((((hR.up ((Up.refl _).alloc _)).up h1).up h2).up ((Up.refl _).alloc (Obj.cells #[Value.int IntKind.i64 0, Value.int IntKind.i64 k] 116))).at_ k (by rw [hx.out]; omega)
  clear hR
  go_wp2
  go_region
  all_goals (try go_wp2)
  go_ret2
  refine ⟨rfl, ?_⟩
  exact (((((Up.refl _).alloc _).trans h1).trans h2).alloc _).drew

set_option maxHeartbeats 1000000 in
theorem load_at1 (m : Me) (a p : Int) (P Q : Addr) (c d : Nat) (w : World) (hm : Sits w m P Q c d) (ha : U64 a) (hl : Leads a 1 p) (hp : p < m.n) :
    Calls Try.prog 57 #[.agg #[.int .i64 m.n, .slice (some P) m.n c, .slice (some Q) m.n d], .int .u64 a] w fun e w' => e = .returned (.tuple #[.int .u64 (m.ys.getD p.toNat 0), .int .i64 0]) ∧ Up w w' := by
  have hpl := Lib.hid (fun w => place_yes m.n 1 a 1 p (some P) (some Q) c d hm.1.2.1 (by omega) ha hl ⟨by omega, by omega⟩ w)
  obtain ⟨hs, p0, p1, hE⟩ := hl
  obtain ⟨k, rfl⟩ : ∃ k : Nat, p = k := ⟨p.toNat, by omega⟩
  have hx := Lib.hid hm.1.2.2.2
  have hR := hm.2.2.2.2.2.2
  obtain ⟨n, xs, ys⟩ := m
  clear ha hE hm hs
  simp only at hp hx hR hpl ⊢
  go_enter Try.func57, Try.ntmps57
  go_wp2_with (fail)
  refine (places_any _ _ _ _ _).mono ?_
  rintro e w1 ⟨rfl, h1⟩
  obtain ⟨c1, f1⟩ := bcell h1
  have y1 : w.heap.size < w1.heap.size := by have := h1.size; simp at this; omega
  go_wp2_with (fail)
  refine (hpl.out _).mono ?_
  rintro e w2 ⟨rfl, h2⟩
  obtain ⟨c2, f2⟩ := bcell h2
  have y2 := h2.lt y1
  have g1 := ((((hR.up ((Up.refl _).alloc _)).up h1).up h2).up ((Up.refl _).alloc (Obj.cells #[Value.int IntKind.i64 1, Value.int IntKind.i64 k] 116))).at_ k (by rw [hx.out]; omega)
  clear hR
  go_wp2
  go_region
  all_goals (try go_wp2)
  go_ret2
  refine ⟨rfl, ?_⟩
  exact (((((Up.refl _).alloc _).trans h1).trans h2).alloc _).drew

set_option maxHeartbeats 1000000 in
theorem load_no' (n : Nat) (a : Int) (A B : Option Addr) (c d : Nat) (w : World)
    (hpl : ∀ w, Calls Try.prog 98 #[.agg #[.int .i64 n, .slice A n c, .slice B n d, .int .i64 1], .int .u64 a] w fun e w' => e = .returned (.tuple #[.agg #[.int .i64 0, .int .i64 0], .bool false]) ∧ Up w w') :
    Calls Try.prog 57 #[.agg #[.int .i64 n, .slice A n c, .slice B n d], .int .u64 a] w fun e w' => e = .returned (.tuple #[.int .u64 0, .int .i64 2]) ∧ Up w w' := by
  have hpl := Lib.hid hpl
  go_enter Try.func57, Try.ntmps57
  go_wp2_with (fail)
  refine (places_any _ _ _ _ _).mono ?_
  rintro e w1 ⟨rfl, h1⟩
  obtain ⟨c1, f1⟩ := bcell h1
  have y1 : w.heap.size < w1.heap.size := by have := h1.size; simp at this; omega
  go_wp2_with (fail)
  refine (hpl.out _).mono ?_
  rintro e w2 ⟨rfl, h2⟩
  go_wp2
  go_ret2
  exact ⟨rfl, ((((Up.refl _).alloc _).trans h1).trans h2).alloc _⟩

/-- A place that isn't there. -/
theorem place_no (m : Me) (k a : Int) (A B : Option Addr) (c d : Nat) (hn : m.n ≤ 4096) (hk : I64 k) (k0 : 0 ≤ k) (ha : U64 a) (h : ¬ (whb a = true ∧ Runs m.n k (whp a))) (w : World) :
    Calls Try.prog 98 #[.agg #[.int .i64 m.n, .slice A m.n c, .slice B m.n d, .int .i64 k], .int .u64 a] w fun e w' => e = .returned (.tuple #[.agg #[.int .i64 0, .int .i64 0], .bool false]) ∧ Up w w' := by
  rcases leads_or a ha with ⟨s, p, hl⟩ | hb
  · obtain ⟨e1, e2, e3⟩ := hl.is
    exact place_far m.n k a s p A B c d hn hk k0 ha hl (fun hr => h ⟨e3, by rw [e2]; exact hr⟩) w
  · exact place_none m.n k a A B c d ha hb w

theorem there_runs {m : Me} {a : Int} (h : whb a = true ∧ Runs m.n 1 (whp a)) : m.there a := ⟨h.1, by have := h.2.1; omega⟩

/-- What is loaded, and why not. -/
theorem load_any (m : Me) (a : Int) (P Q : Addr) (c d : Nat) (w : World) (hm : Sits w m P Q c d) (ha : U64 a) :
    Calls Try.prog 57 #[.agg #[.int .i64 m.n, .slice (some P) m.n c, .slice (some Q) m.n d], .int .u64 a] w fun e w' => e = .returned (.tuple #[.int .u64 (m.ld a), .int .i64 (m.lde a)]) ∧ Up w w' := by
  by_cases h : m.there a
  · rw [show m.ld a = (m.sp (whs a)).getD (whp a).toNat 0 from if_pos h, show m.lde a = 0 from if_pos h]
    rcases leads_or a ha with ⟨s, p, hl⟩ | hb
    · obtain ⟨e1, e2, e3⟩ := hl.is
      have hp : p < m.n := by have := h.2; omega
      rw [e1, e2]
      rcases hl.1 with rfl | rfl
      · exact load_at0 m a p P Q c d w hm ha hl hp
      · exact load_at1 m a p P Q c d w hm ha hl hp
    · exact absurd h.1 (by rw [hb]; decide)
  · rw [show m.ld a = 0 from if_neg h, show m.lde a = 2 from if_neg h]
    exact load_no' m.n a _ _ c d w (fun w => place_no m 1 a _ _ c d hm.1.2.1 ⟨by omega, by omega⟩ (by omega) ha (fun k => h (there_runs k)) w)
end Go.Proofs.Ytgcpkgogjcgfbaa
