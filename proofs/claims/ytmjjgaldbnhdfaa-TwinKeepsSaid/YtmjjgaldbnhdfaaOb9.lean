/- The document's answers for fields and twins (dovecoteref05: Get, Set, Twin, Join): contracts. -/
import Derived.Test.YtmjjgaldbnhdfaaOb8
namespace Go.Proofs.Ytmjjgaldbnhdfaa
open Go.ChangeShapes Go.WideShapes Go.ChangeAt Go.RowKit
set_option linter.unusedVariables false
set_option linter.unusedSimpArgs false

set_option maxHeartbeats 1000000 in
theorem rtwin_at (m : Me) (a : Int) (x : Int) (P Q : Addr) (c d : Nat) (w : World) (hm : Sits w m P Q c d) (ha : U64 a) (hwf : m.wf) (hx : m.ate a = x) (h0 : x ≠ 0) :
    Calls Try.prog 14 #[.agg #[.int .i64 m.n, .slice (some P) m.n c, .slice (some Q) m.n d], .int .u64 a] w (fun e w' => e = .returned (.tuple #[.int .u64 0, .int .i64 x]) ∧ Up w w') := by
  have HN := at_no (m := m) (a := a) (fun q => h0 (hx.symm.trans (ate_0.2 q)))
  have hat := fun (W : World) (hS : Sits W m P Q c d) => rat_any m a P Q c d W hS ha hwf
  rw [HN.1, HN.2.1, HN.2.2, hx] at hat
  have hat := Lib.hid hat
  have HM := Lib.hid hm
  have hb : (x != 0) = true := bne_iff_ne.mpr h0
  clear hm ha hwf hx h0 HN
  go_enter Try.func14, Try.ntmps14
  go_wp2_with (fail)
  refine (hat.out _ (HM.out.up ((Up.refl w).alloc _))).mono ?_
  rintro e w1 ⟨rfl, h1⟩
  have M1 : Blk w1 w.heap.size 25 #[.int .i64 m.n, .slice (some P) m.n c, .slice (some Q) m.n d] := (Blk.new' w rfl _ _).up h1
  have U1 : Up w w1 := ((Up.refl w).alloc _).trans h1
  clear h1
  have M1c := M1.cell
  have M1l := M1.lt
  go_wp2
  go_ret2
  exact ⟨rfl, U1.alloc _⟩

set_option maxHeartbeats 1000000 in
theorem rtwin_fl (m : Me) (a : Int) (P Q : Addr) (c d : Nat) (w : World) (hm : Sits w m P Q c d) (ha : U64 a) (hwf : m.wf) (hk : m.atok a) (ht : m.att a = 255) :
    Calls Try.prog 14 #[.agg #[.int .i64 m.n, .slice (some P) m.n c, .slice (some Q) m.n d], .int .u64 a] w (fun e w' => e = .returned (.tuple #[.int .u64 0, .int .i64 8]) ∧ Up w w') := by
  generalize hl : m.atl a = l
  generalize hmp : m.atm a = mp
  have hat := fun (W : World) (hS : Sits W m P Q c d) => rat_any m a P Q c d W hS ha hwf
  rw [ht, ate_0.2 hk, hl, hmp] at hat
  have hat := Lib.hid hat
  have HM := Lib.hid hm
  clear hm ha hwf hk ht hl hmp
  go_enter Try.func14, Try.ntmps14
  go_wp2_with (fail)
  refine (hat.out _ (HM.out.up ((Up.refl w).alloc _))).mono ?_
  rintro e w1 ⟨rfl, h1⟩
  have M1 : Blk w1 w.heap.size 25 #[.int .i64 m.n, .slice (some P) m.n c, .slice (some Q) m.n d] := (Blk.new' w rfl _ _).up h1
  have U1 : Up w w1 := ((Up.refl w).alloc _).trans h1
  clear h1
  have M1c := M1.cell
  have M1l := M1.lt
  go_wp2
  go_ret2
  exact ⟨rfl, U1.alloc _⟩

set_option maxHeartbeats 1000000 in
theorem rtwin_ok (m : Me) (a : Int) (P Q : Addr) (c d : Nat) (w : World) (hm : Sits w m P Q c d) (ha : U64 a) (hwf : m.wf) (hk : m.kne a = 0) :
    Calls Try.prog 14 #[.agg #[.int .i64 m.n, .slice (some P) m.n c, .slice (some Q) m.n d], .int .u64 a] w (fun e w' => e = .returned (.tuple #[.int .u64 (m.ld (a + 1)), .int .i64 0]) ∧ Up w w') := by
  obtain ⟨hth, b0, b1⟩ := tw_off hm.1.2.1 hk
  have hb : (m.att a == 255) = false := beq_eq_false_iff_ne.mpr (kne_0.1 hk).2
  have hat := fun (W : World) (hS : Sits W m P Q c d) => rat_any m a P Q c d W hS ha hwf
  rw [ate_0.2 (kne_0.1 hk).1] at hat
  have hat := Lib.hid hat
  have hl := Lib.hid (fun (W : World) (hS : Sits W m P Q c d) => show Calls Try.prog 10 #[.agg #[.int .i64 m.n, .slice (some P) m.n c, .slice (some Q) m.n d], .int .u64 (a + 1)] W fun e w' => e = .returned (.tuple #[.int .u64 (m.ld (a + 1)), .int .i64 0]) ∧ Up W w' from by
    have h := rload_any m (a + 1) P Q c d W hS ⟨b0, b1⟩
    rw [show m.lde (a + 1) = 0 from if_pos hth] at h
    exact h)
  have a0 := ha.1
  have HM := Lib.hid hm
  clear hm ha hwf hk hth
  generalize m.ld (a + 1) = v at hl ⊢
  generalize m.att a = t at hat hb
  generalize m.atl a = l at hat
  generalize m.atm a = mp at hat
  go_enter Try.func14, Try.ntmps14
  go_wp2_with (fail)
  refine (hat.out _ (HM.out.up ((Up.refl w).alloc _))).mono ?_
  rintro e w1 ⟨rfl, h1⟩
  have M1 : Blk w1 w.heap.size 25 #[.int .i64 m.n, .slice (some P) m.n c, .slice (some Q) m.n d] := (Blk.new' w rfl _ _).up h1
  have U1 : Up w w1 := ((Up.refl w).alloc _).trans h1
  clear h1
  have M1c := M1.cell
  have M1l := M1.lt
  go_wp2_with (fail)
  refine (hl.out _ ((HM.out.up U1).up ((Up.refl _).alloc _))).mono ?_
  rintro e w2 ⟨rfl, h2⟩
  have U2 := (U1.alloc _).trans h2
  go_wp2
  go_ret2
  exact ⟨rfl, U2⟩

theorem rtwin_any (m : Me) (a : Int) (P Q : Addr) (c d : Nat) (w : World) (hm : Sits w m P Q c d) (ha : U64 a) (hwf : m.wf) :
    Calls Try.prog 14 #[.agg #[.int .i64 m.n, .slice (some P) m.n c, .slice (some Q) m.n d], .int .u64 a] w fun e w' => e = .returned (.tuple #[.int .u64 (m.twv a), .int .i64 (m.kne a)]) ∧ Up w w' := by
  by_cases h0 : m.kne a = 0
  · rw [show m.twv a = _ from if_pos h0, h0]
    exact rtwin_ok m a P Q c d w hm ha hwf h0
  rw [show m.twv a = 0 from if_neg h0]
  by_cases hk : m.atok a
  · have ht : m.att a = 255 := by
      by_cases ht : m.att a = 255
      · exact ht
      · exact absurd (kne_0.2 ⟨hk, ht⟩) h0
    rw [show m.kne a = 8 from (if_pos hk).trans (by rw [ht]; rfl)]
    exact rtwin_fl m a P Q c d w hm ha hwf hk ht
  · rw [show m.kne a = m.ate a from if_neg hk]
    exact rtwin_at m a _ P Q c d w hm ha hwf rfl (fun q => hk (ate_0.1 q))

end Go.Proofs.Ytmjjgaldbnhdfaa
