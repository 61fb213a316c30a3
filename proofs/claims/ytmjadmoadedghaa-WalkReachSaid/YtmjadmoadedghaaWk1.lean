/- Small parts of package walk: where a thing is, and what its head tells (size.Addr, filler, within, found); the document's Real: contracts. -/
import Derived.Test.YtmjadmoadedghaaOb9
namespace Go.Proofs.Ytmjadmoadedghaa
open Go.ChangeShapes Go.WideShapes Go.ChangeAt Go.RowKit
set_option linter.unusedVariables false
set_option linter.unusedSimpArgs false

/-- A place's address. -/
def adr (s p : Int) : Int := (s + 1) * 4294967296 + p
set_option maxHeartbeats 400000 in
theorem addr_ok (s p : Int) (h0 : s = 0 ∨ s = 1) (h1 : 0 ≤ p) (h2 : p < 4294967296) (w : World) :
    Calls Try.prog 61 #[.int .i64 s, .int .i64 p] w fun e w' => e = .returned (.int .u64 (adr s p)) ∧ w = w' := by
  rcases h0 with rfl | rfl
  · go_enter Try.func61, Try.ntmps61
    go_wp2
    go_ret
    exact ⟨ret_int (by unfold adr; omega), rfl⟩
  · go_enter Try.func61, Try.ntmps61
    go_wp2
    go_ret
    exact ⟨ret_int (by unfold adr; omega), rfl⟩
theorem adr_u64 {s p : Int} (h0 : s = 0 ∨ s = 1) (h1 : 0 ≤ p) (h2 : p < 4294967296) : U64 (adr s p) := by unfold U64 adr; omega

theorem filler_any (t l mp : Int) (w : World) : Calls Try.prog 32 #[hdv t l mp] w fun e w' => e = .returned (.bool (t == 255)) ∧ Up w w' := by
  generalize hb : (t == 255) = b
  go_enter Try.func32, Try.ntmps32
  go_wp2
  go_ret
  exact ⟨rfl, (Up.refl _).alloc _⟩

/-- How many words what is at an address has. -/
def Me.wsz (m : Me) (a : Int) : Int := wdn (m.att a) (m.atl a)
/-- Why it isn't told, where so many words are left. -/
def Me.wne (m : Me) (a lf : Int) : Int := if m.ate a = 0 then (if lf < m.wsz a then 10 else 0) else m.ate a
theorem at_rte {m : Me} {a : Int} (h : m.ate a = 0) : rte (m.att a) (m.atl a) (m.atm a) = 0 ∧ 0 ≤ m.atm a := by
  have k := ate_0.1 h
  obtain ⟨e1, e2, e3⟩ := at_of k
  rw [e1, e2, e3]
  exact ⟨atok_rte k, mpw_nn _⟩
theorem wsz_small {m : Me} {a : Int} (h : m.ate a = 0) : 1 ≤ m.wsz a ∧ m.wsz a ≤ 65536 := wdn_small (at_rte h).2 (at_rte h).1

set_option maxHeartbeats 1000000 in
theorem within_far (m : Me) (a lf x : Int) (P Q : Addr) (c d : Nat) (w : World) (hm : Sits w m P Q c d) (ha : U64 a) (hwf : m.wf) (hx : m.ate a = x) (h0 : x ≠ 0) :
    Calls Try.prog 62 #[.agg #[.int .i64 m.n, .slice (some P) m.n c, .slice (some Q) m.n d], .int .u64 a, .int .i64 lf] w fun e w' => e = .returned (.tuple #[hdv 0 0 0, .int .i64 x]) ∧ Up w w' := by
  have hat := fun (W : World) (hS : Sits W m P Q c d) => at_any m a P Q c d W hS ha hwf
  obtain ⟨e1, e2, e3⟩ := at_no (m := m) (a := a) (fun q => h0 (hx.symm.trans (ate_0.2 q)))
  rw [e1, e2, e3, hx] at hat
  have hat := Lib.hid hat
  have HM := Lib.hid hm
  have hb : (x != 0) = true := bne_iff_ne.mpr h0
  clear hm ha hwf hx h0 e1 e2 e3
  go_enter Try.func62, Try.ntmps62
  go_wp2_with (fail)
  refine (hat.out _ (HM.out.up (((Up.refl w).alloc _).alloc _))).mono ?_
  rintro e w1 ⟨rfl, h1⟩
  have R1 : Blk w1 (w.heap.size + 1) 33 #[.int .i64 0, .int .i64 0, .int .u64 0] := (Blk.new' (w.alloc (.cells #[.int .i64 m.n, .slice (some P) m.n c, .slice (some Q) m.n d] 25)) (by simp) _ _).up h1
  have U1 : Up w w1 := (((Up.refl w).alloc _).alloc _).trans h1
  clear h1
  have R1c := R1.cell
  have R1f := R1.frozen
  have R1l := R1.lt
  go_wp2
  refine bodyPost_ret (v := .tuple #[hdv 0 0 0, .int .i64 x]) (by simp [results, Try.results62, go_sem, R1c, R1l, Nat.ne_of_lt R1l]) rfl ⟨rfl, (U1.set3 (by omega) _ _ _).alloc _⟩

set_option maxHeartbeats 1000000 in
theorem within_at (m : Me) (a lf : Int) (P Q : Addr) (c d : Nat) (w : World) (hm : Sits w m P Q c d) (ha : U64 a) (hwf : m.wf) (hx : m.ate a = 0) (b : Bool) (hb : decide (lf < m.wsz a) = b) :
    Calls Try.prog 62 #[.agg #[.int .i64 m.n, .slice (some P) m.n c, .slice (some Q) m.n d], .int .u64 a, .int .i64 lf] w fun e w' => e = .returned (.tuple #[if b then hdv 0 0 0 else hdv (m.att a) (m.atl a) (m.atm a), .int .i64 (if b then 10 else 0)]) ∧ Up w w' := by
  have hat := fun (W : World) (hS : Sits W m P Q c d) => at_any m a P Q c d W hS ha hwf
  rw [hx] at hat
  have hat := Lib.hid hat
  have HM := Lib.hid hm
  have hw := Lib.hid (fun w => words_any (m.att a) (m.atl a) (m.atm a) (at_rte hx).2 (at_rte hx).1 w)
  unfold Me.wsz at hb
  generalize wdn (m.att a) (m.atl a) = k at hb hw
  generalize m.att a = t at hat hw ⊢
  generalize m.atl a = l at hat hw ⊢
  generalize m.atm a = mp at hat hw ⊢
  clear hm ha hwf hx
  go_enter Try.func62, Try.ntmps62
  go_wp2_with (fail)
  refine (hat.out _ (HM.out.up (((Up.refl w).alloc _).alloc _))).mono ?_
  rintro e w1 ⟨rfl, h1⟩
  have R1 : Blk w1 (w.heap.size + 1) 33 #[.int .i64 0, .int .i64 0, .int .u64 0] := (Blk.new' (w.alloc (.cells #[.int .i64 m.n, .slice (some P) m.n c, .slice (some Q) m.n d] 25)) (by simp) _ _).up h1
  have U1 : Up w w1 := (((Up.refl w).alloc _).alloc _).trans h1
  clear h1
  have R1c := R1.cell
  have R1f := R1.frozen
  have R1l := R1.lt
  go_wp2_with (fail)
  refine (hw.out _).mono ?_
  rintro e w2 ⟨rfl, h2⟩
  have H2c := ((Blk.new w1 33 (hcs t l mp)).up h2).cell
  have R2 := (R1.alloc (.cells (hcs t l mp) 33)).up h2
  have U2 := (U1.alloc (.cells (hcs t l mp) 33)).trans h2
  clear h2 R1 U1 R1c R1f R1l
  have R2c := R2.cell
  have R2f := R2.frozen
  have R2l := R2.lt
  cases b
  · go_wp2
    refine bodyPost_ret (v := .tuple #[hdv t l mp, .int .i64 0]) (by simp [results, Try.results62, go_sem, R2c, R2l, Nat.ne_of_lt R2l]) rfl ⟨rfl, U2.set3 (by omega) _ _ _⟩
  · go_wp2
    refine bodyPost_ret (v := .tuple #[hdv 0 0 0, .int .i64 10]) (by simp [results, Try.results62, go_sem, R2c, R2l, Nat.ne_of_lt R2l]) rfl ⟨rfl, U2.set3 (by omega) _ _ _⟩

theorem within_no (m : Me) (a lf x : Int) (P Q : Addr) (c d : Nat) (w : World) (hm : Sits w m P Q c d) (ha : U64 a) (hwf : m.wf) (hx : m.wne a lf = x) (h0 : x ≠ 0) :
    Calls Try.prog 62 #[.agg #[.int .i64 m.n, .slice (some P) m.n c, .slice (some Q) m.n d], .int .u64 a, .int .i64 lf] w fun e w' => e = .returned (.tuple #[hdv 0 0 0, .int .i64 x]) ∧ Up w w' := by
  unfold Me.wne at hx
  by_cases hk : m.ate a = 0
  · rw [if_pos hk] at hx
    by_cases hl : lf < m.wsz a
    · rw [if_pos hl] at hx
      subst hx
      exact within_at m a lf P Q c d w hm ha hwf hk true (decide_eq_true hl)
    · rw [if_neg hl] at hx
      exact absurd hx.symm h0
  · rw [if_neg hk] at hx
    exact within_far m a lf x P Q c d w hm ha hwf hx h0
theorem within_ok (m : Me) (a lf : Int) (P Q : Addr) (c d : Nat) (w : World) (hm : Sits w m P Q c d) (ha : U64 a) (hwf : m.wf) (hx : m.wne a lf = 0) :
    Calls Try.prog 62 #[.agg #[.int .i64 m.n, .slice (some P) m.n c, .slice (some Q) m.n d], .int .u64 a, .int .i64 lf] w fun e w' => e = .returned (.tuple #[hdv (m.att a) (m.atl a) (m.atm a), .int .i64 0]) ∧ Up w w' := by
  unfold Me.wne at hx
  by_cases hk : m.ate a = 0
  · rw [if_pos hk] at hx
    by_cases hl : lf < m.wsz a
    · rw [if_pos hl] at hx
      cases hx
    · exact within_at m a lf P Q c d w hm ha hwf hk false (decide_eq_false hl)
  · rw [if_neg hk] at hx
    exact absurd hx hk
theorem wne_0 {m : Me} {a lf : Int} : m.wne a lf = 0 ↔ m.ate a = 0 ∧ m.wsz a ≤ lf := by
  unfold Me.wne
  by_cases hk : m.ate a = 0
  · rw [if_pos hk]
    by_cases hl : lf < m.wsz a
    · rw [if_pos hl]
      exact ⟨fun q => (by cases q), fun q => by omega⟩
    · rw [if_neg hl]
      exact ⟨fun _ => ⟨hk, by omega⟩, fun _ => rfl⟩
  · rw [if_neg hk]
    exact ⟨fun q => absurd q hk, fun q => absurd q.1 hk⟩

/-- Is an object, no filler, at an address? -/
def Me.real (m : Me) (a : Int) : Bool := decide (m.kne a = 0)
theorem real_at {m : Me} {a : Int} (b : Bool) (h : (m.ate a == 0) = b) : m.real a = (b && !(m.att a == 255)) := by
  unfold Me.real
  cases b
  · have h := beq_eq_false_iff_ne.1 h
    exact decide_eq_false (fun q => h (ate_0.2 (kne_0.1 q).1))
  · have h := beq_iff_eq.1 h
    by_cases k : m.att a = 255
    · rw [decide_eq_false (fun q => (kne_0.1 q).2 k), beq_iff_eq.2 k]; rfl
    · rw [decide_eq_true (kne_0.2 ⟨ate_0.1 h, k⟩), beq_eq_false_iff_ne.2 k]; rfl

set_option maxHeartbeats 1000000 in
theorem found_any (m : Me) (a : Int) (P Q : Addr) (c d : Nat) (w : World) (hm : Sits w m P Q c d) (ha : U64 a) (hwf : m.wf) :
    Calls Try.prog 35 #[.agg #[.int .i64 m.n, .slice (some P) m.n c, .slice (some Q) m.n d], .int .u64 a] w fun e w' => e = .returned (.bool (m.real a)) ∧ Up w w' := by
  have hat := Lib.hid (fun (W : World) (hS : Sits W m P Q c d) => at_any m a P Q c d W hS ha hwf)
  have HM := Lib.hid hm
  generalize hb : (m.ate a == 0) = b
  rw [real_at b hb]
  clear hm ha hwf
  generalize m.ate a = x at hat hb
  generalize m.att a = t at hat ⊢
  generalize m.atl a = l at hat
  generalize m.atm a = mp at hat
  have hf := Lib.hid (fun w => filler_any t l mp w)
  generalize (t == 255) = fb at hf ⊢
  go_enter Try.func35, Try.ntmps35
  go_wp2_with (fail)
  refine (hat.out _ (HM.out.up ((Up.refl w).alloc _))).mono ?_
  rintro e w1 ⟨rfl, h1⟩
  have U1 : Up w w1 := ((Up.refl w).alloc _).trans h1
  clear h1
  cases b
  · go_wp2
    go_ret
    exact ⟨rfl, U1.alloc _⟩
  · go_wp2_with (fail)
    refine (hf.out _).mono ?_
    rintro e w2 ⟨rfl, h2⟩
    go_wp2
    go_ret
    exact ⟨rfl, (U1.alloc _).trans h2⟩

set_option maxHeartbeats 1000000 in
theorem rreal_any (m : Me) (a : Int) (P Q : Addr) (c d : Nat) (w : World) (hm : Sits w m P Q c d) (ha : U64 a) (hwf : m.wf) :
    Calls Try.prog 19 #[.agg #[.int .i64 m.n, .slice (some P) m.n c, .slice (some Q) m.n d], .int .u64 a] w fun e w' => e = .returned (.bool (m.real a)) ∧ Up w w' := by
  have hat := Lib.hid (fun (W : World) (hS : Sits W m P Q c d) => rat_any m a P Q c d W hS ha hwf)
  have HM := Lib.hid hm
  generalize hb : (m.ate a == 0) = b
  rw [real_at b hb]
  clear hm ha hwf
  generalize m.ate a = x at hat hb
  generalize m.att a = t at hat ⊢
  generalize m.atl a = l at hat
  generalize m.atm a = mp at hat
  generalize hf : (!(t == 255)) = fb
  have hf2 : (t != 255) = fb := hf
  clear hf
  go_enter Try.func19, Try.ntmps19
  go_wp2_with (fail)
  refine (hat.out _ (HM.out.up ((Up.refl w).alloc _))).mono ?_
  rintro e w1 ⟨rfl, h1⟩
  have U1 : Up w w1 := ((Up.refl w).alloc _).trans h1
  clear h1
  cases b
  · go_wp2
    go_ret
    exact ⟨rfl, U1.alloc _⟩
  · go_wp2
    go_ret
    exact ⟨rfl, U1.alloc _⟩
end Go.Proofs.Ytmjadmoadedghaa
