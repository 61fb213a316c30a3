/- The document's answers for fields and twins (dovecoteref05: Get, Set, Twin, Join): contracts. -/
import Derived.Test.YtgcpkgogjcgfbaaOb8
namespace Go.Proofs.Ytgcpkgogjcgfbaa
open Go.ChangeShapes Go.WideShapes Go.ChangeAt Go.RowKit
set_option linter.unusedVariables false
set_option linter.unusedSimpArgs false

set_option maxHeartbeats 1000000 in
theorem rget_at (m : Me) (a : Int) (i : Int) (x : Int) (P Q : Addr) (c d : Nat) (w : World) (hm : Sits w m P Q c d) (ha : U64 a) (hwf : m.wf) (hx : m.ate a = x) (h0 : x ≠ 0) :
    Calls Try.prog 19 #[.agg #[.int .i64 m.n, .slice (some P) m.n c, .slice (some Q) m.n d], .int .u64 a, .int .i64 i] w (fun e w' => e = .returned (.tuple #[.int .u64 0, .bool false, .int .i64 x]) ∧ Up w w') := by
  have HN := at_no (m := m) (a := a) (fun q => h0 (hx.symm.trans (ate_0.2 q)))
  have hat := fun (W : World) (hS : Sits W m P Q c d) => rat_any m a P Q c d W hS ha hwf
  rw [HN.1, HN.2.1, HN.2.2, hx] at hat
  have hat := Lib.hid hat
  have HM := Lib.hid hm
  have hb : (x != 0) = true := bne_iff_ne.mpr h0
  clear hm ha hwf hx h0 HN
  go_enter Try.func19, Try.ntmps19
  go_wp2_with (fail)
  refine (hat.out _ (HM.out.up ((Up.refl w).alloc _))).mono ?_
  rintro e w1 ⟨rfl, h1⟩
  have M1 : Blk w1 w.heap.size 25 #[.int .i64 m.n, .slice (some P) m.n c, .slice (some Q) m.n d] := (Blk.new' w rfl _ _).up h1
  have U1 : Up w w1 := ((Up.refl w).alloc _).trans h1
  clear h1
  have M1c := M1.cell
  have M1l := M1.lt
  go_wp2
  go_ret3
  exact ⟨rfl, U1.alloc _⟩

set_option maxHeartbeats 1000000 in
theorem rget_fl (m : Me) (a : Int) (i : Int) (P Q : Addr) (c d : Nat) (w : World) (hm : Sits w m P Q c d) (ha : U64 a) (hwf : m.wf) (hk : m.atok a) (ht : m.att a = 255) :
    Calls Try.prog 19 #[.agg #[.int .i64 m.n, .slice (some P) m.n c, .slice (some Q) m.n d], .int .u64 a, .int .i64 i] w (fun e w' => e = .returned (.tuple #[.int .u64 0, .bool false, .int .i64 8]) ∧ Up w w') := by
  generalize hl : m.atl a = l
  generalize hmp : m.atm a = mp
  have hat := fun (W : World) (hS : Sits W m P Q c d) => rat_any m a P Q c d W hS ha hwf
  rw [ht, ate_0.2 hk, hl, hmp] at hat
  have hat := Lib.hid hat
  have HM := Lib.hid hm
  clear hm ha hwf hk ht hl hmp
  go_enter Try.func19, Try.ntmps19
  go_wp2_with (fail)
  refine (hat.out _ (HM.out.up ((Up.refl w).alloc _))).mono ?_
  rintro e w1 ⟨rfl, h1⟩
  have M1 : Blk w1 w.heap.size 25 #[.int .i64 m.n, .slice (some P) m.n c, .slice (some Q) m.n d] := (Blk.new' w rfl _ _).up h1
  have U1 : Up w w1 := ((Up.refl w).alloc _).trans h1
  clear h1
  have M1c := M1.cell
  have M1l := M1.lt
  go_wp2
  go_ret3
  exact ⟨rfl, U1.alloc _⟩

set_option maxHeartbeats 1000000 in
theorem rtwin_at (m : Me) (a : Int) (x : Int) (P Q : Addr) (c d : Nat) (w : World) (hm : Sits w m P Q c d) (ha : U64 a) (hwf : m.wf) (hx : m.ate a = x) (h0 : x ≠ 0) :
    Calls Try.prog 13 #[.agg #[.int .i64 m.n, .slice (some P) m.n c, .slice (some Q) m.n d], .int .u64 a] w (fun e w' => e = .returned (.tuple #[.int .u64 0, .int .i64 x]) ∧ Up w w') := by
  have HN := at_no (m := m) (a := a) (fun q => h0 (hx.symm.trans (ate_0.2 q)))
  have hat := fun (W : World) (hS : Sits W m P Q c d) => rat_any m a P Q c d W hS ha hwf
  rw [HN.1, HN.2.1, HN.2.2, hx] at hat
  have hat := Lib.hid hat
  have HM := Lib.hid hm
  have hb : (x != 0) = true := bne_iff_ne.mpr h0
  clear hm ha hwf hx h0 HN
  go_enter Try.func13, Try.ntmps13
  go_wp2_with (fail)
  refine (hat.out _ (HM.out.up ((Up.refl w).alloc _))).mono ?_
  rintro e w1 ⟨rfl, h1⟩
  have M1 : Blk w1 w.heap.size 25 #[.int .i64 m.n, .slice (some P) m.n c, .slice (some Q) m.n d] := (Blk.new' w rfl _ _).up h1
  have U1 : Up w w1 := ((Up.refl w).alloc _).trans h1
  clear h1
  have M1c := M1.cell
  have M1l := M1.lt
  go_wp2
  go_ret2
  exact ⟨rfl, U1.alloc _⟩

set_option maxHeartbeats 1000000 in
theorem rtwin_fl (m : Me) (a : Int) (P Q : Addr) (c d : Nat) (w : World) (hm : Sits w m P Q c d) (ha : U64 a) (hwf : m.wf) (hk : m.atok a) (ht : m.att a = 255) :
    Calls Try.prog 13 #[.agg #[.int .i64 m.n, .slice (some P) m.n c, .slice (some Q) m.n d], .int .u64 a] w (fun e w' => e = .returned (.tuple #[.int .u64 0, .int .i64 8]) ∧ Up w w') := by
  generalize hl : m.atl a = l
  generalize hmp : m.atm a = mp
  have hat := fun (W : World) (hS : Sits W m P Q c d) => rat_any m a P Q c d W hS ha hwf
  rw [ht, ate_0.2 hk, hl, hmp] at hat
  have hat := Lib.hid hat
  have HM := Lib.hid hm
  clear hm ha hwf hk ht hl hmp
  go_enter Try.func13, Try.ntmps13
  go_wp2_with (fail)
  refine (hat.out _ (HM.out.up ((Up.refl w).alloc _))).mono ?_
  rintro e w1 ⟨rfl, h1⟩
  have M1 : Blk w1 w.heap.size 25 #[.int .i64 m.n, .slice (some P) m.n c, .slice (some Q) m.n d] := (Blk.new' w rfl _ _).up h1
  have U1 : Up w w1 := ((Up.refl w).alloc _).trans h1
  clear h1
  have M1c := M1.cell
  have M1l := M1.lt
  go_wp2
  go_ret2
  exact ⟨rfl, U1.alloc _⟩

set_option maxHeartbeats 1000000 in
theorem rget_lo (m : Me) (a : Int) (i : Int) (P Q : Addr) (c d : Nat) (w : World) (hm : Sits w m P Q c d) (ha : U64 a) (hwf : m.wf) (hk : m.kne a = 0) (hi : i < 0) :
    Calls Try.prog 19 #[.agg #[.int .i64 m.n, .slice (some P) m.n c, .slice (some Q) m.n d], .int .u64 a, .int .i64 i] w (fun e w' => e = .returned (.tuple #[.int .u64 0, .bool false, .int .i64 7]) ∧ Up w w') := by
  have hd : decide (i < 0) = true := decide_eq_true hi
  have hb : (m.att a == 255) = false := beq_eq_false_iff_ne.mpr (kne_0.1 hk).2
  have hat := fun (W : World) (hS : Sits W m P Q c d) => rat_any m a P Q c d W hS ha hwf
  rw [ate_0.2 (kne_0.1 hk).1] at hat
  have hat := Lib.hid hat
  have HM := Lib.hid hm
  clear hm ha hwf hk hi
  generalize m.att a = t at hat hb
  generalize m.atl a = l at hat
  generalize m.atm a = mp at hat
  go_enter Try.func19, Try.ntmps19
  go_wp2_with (fail)
  refine (hat.out _ (HM.out.up ((Up.refl w).alloc _))).mono ?_
  rintro e w1 ⟨rfl, h1⟩
  have M1 : Blk w1 w.heap.size 25 #[.int .i64 m.n, .slice (some P) m.n c, .slice (some Q) m.n d] := (Blk.new' w rfl _ _).up h1
  have U1 : Up w w1 := ((Up.refl w).alloc _).trans h1
  clear h1
  have M1c := M1.cell
  have M1l := M1.lt
  go_wp2
  go_ret3
  exact ⟨rfl, U1.alloc _⟩

set_option maxHeartbeats 1000000 in
theorem rget_hi (m : Me) (a : Int) (i : Int) (P Q : Addr) (c d : Nat) (w : World) (hm : Sits w m P Q c d) (ha : U64 a) (hwf : m.wf) (hk : m.kne a = 0) (h0 : 0 ≤ i) (hi : m.atl a ≤ i) :
    Calls Try.prog 19 #[.agg #[.int .i64 m.n, .slice (some P) m.n c, .slice (some Q) m.n d], .int .u64 a, .int .i64 i] w (fun e w' => e = .returned (.tuple #[.int .u64 0, .bool false, .int .i64 7]) ∧ Up w w') := by
  have hd : decide (m.atl a ≤ i) = true := decide_eq_true hi
  have hb : (m.att a == 255) = false := beq_eq_false_iff_ne.mpr (kne_0.1 hk).2
  have hat := fun (W : World) (hS : Sits W m P Q c d) => rat_any m a P Q c d W hS ha hwf
  rw [ate_0.2 (kne_0.1 hk).1] at hat
  have hat := Lib.hid hat
  have HM := Lib.hid hm
  clear hm ha hwf hk hi
  generalize m.att a = t at hat hb
  generalize m.atl a = l at hat hd
  generalize m.atm a = mp at hat
  go_enter Try.func19, Try.ntmps19
  go_wp2_with (fail)
  refine (hat.out _ (HM.out.up ((Up.refl w).alloc _))).mono ?_
  rintro e w1 ⟨rfl, h1⟩
  have M1 : Blk w1 w.heap.size 25 #[.int .i64 m.n, .slice (some P) m.n c, .slice (some Q) m.n d] := (Blk.new' w rfl _ _).up h1
  have U1 : Up w w1 := ((Up.refl w).alloc _).trans h1
  clear h1
  have M1c := M1.cell
  have M1l := M1.lt
  go_wp2
  go_ret3
  exact ⟨rfl, U1.alloc _⟩

set_option maxHeartbeats 2000000 in
theorem rget_ok (m : Me) (a : Int) (i : Int) (P Q : Addr) (c d : Nat) (w : World) (hm : Sits w m P Q c d) (ha : U64 a) (hwf : m.wf) (hf : m.fok a i) :
    Calls Try.prog 19 #[.agg #[.int .i64 m.n, .slice (some P) m.n c, .slice (some Q) m.n d], .int .u64 a, .int .i64 i] w (fun e w' => e = .returned (.tuple #[.int .u64 (m.ld (a + 2 + i)), .bool (ptb (m.atl a) (m.atm a) i), .int .i64 0]) ∧ Up w w') := by
  obtain ⟨hth, i0, i1, b0, b1⟩ := fok_off hm.1.2.1 hf
  have hk := hf.1
  have hb : (m.att a == 255) = false := beq_eq_false_iff_ne.mpr (kne_0.1 hk).2
  have hat := fun (W : World) (hS : Sits W m P Q c d) => rat_any m a P Q c d W hS ha hwf
  rw [ate_0.2 (kne_0.1 hk).1] at hat
  have hat := Lib.hid hat
  have hl := Lib.hid (fun (W : World) (hS : Sits W m P Q c d) => show Calls Try.prog 29 #[.agg #[.int .i64 m.n, .slice (some P) m.n c, .slice (some Q) m.n d], .int .u64 (a + 2 + i)] W fun e w' => e = .returned (.tuple #[.int .u64 (m.ld (a + 2 + i)), .int .i64 0]) ∧ Up W w' from by
    have h := rload_any m (a + 2 + i) P Q c d W hS ⟨b0, b1⟩
    rw [show m.lde (a + 2 + i) = 0 from if_pos hth] at h
    exact h)
  have hp := Lib.hid (fun w => rptr_any (m.att a) (m.atl a) (m.atm a) i (atm_nn m a) (by have := atm_hi m a; omega) (by have := atl_16 hk; omega) w)
  have a0 := ha.1
  have q0 : decide (m.atl a ≤ i) = false := decide_eq_false (by omega)
  have HM := Lib.hid hm
  clear hm ha hwf hk hf hth
  generalize m.ld (a + 2 + i) = v at hl ⊢
  generalize ptb (m.atl a) (m.atm a) i = pb at hp ⊢
  generalize m.att a = t at hat hb hp
  generalize m.atl a = l at hat hp q0 i1
  generalize m.atm a = mp at hat hp
  go_enter Try.func19, Try.ntmps19
  go_wp2_with (fail)
  refine (hat.out _ (HM.out.up ((Up.refl w).alloc _))).mono ?_
  rintro e w1 ⟨rfl, h1⟩
  have M1 : Blk w1 w.heap.size 25 #[.int .i64 m.n, .slice (some P) m.n c, .slice (some Q) m.n d] := (Blk.new' w rfl _ _).up h1
  have U1 : Up w w1 := ((Up.refl w).alloc _).trans h1
  clear h1
  have M1c := M1.cell
  have M1l := M1.lt
  go_wp2_with (fail)
  refine (hl.out _ ((HM.out.up U1).up ((Up.refl _).alloc _))).mono ?_
  rintro e w2 ⟨rfl, h2⟩
  have H2c := ((Blk.new w1 55 (hcs t l mp)).up h2).cell
  have U2 := (U1.alloc _).trans h2
  clear h2 M1c M1l
  go_wp2_with (fail)
  refine (hp.out _).mono ?_
  rintro e w3 ⟨rfl, h3⟩
  go_wp2
  go_ret3
  exact ⟨rfl, U2.trans h3⟩

theorem rget_any (m : Me) (a i : Int) (P Q : Addr) (c d : Nat) (w : World) (hm : Sits w m P Q c d) (ha : U64 a) (hwf : m.wf) :
    Calls Try.prog 19 #[.agg #[.int .i64 m.n, .slice (some P) m.n c, .slice (some Q) m.n d], .int .u64 a, .int .i64 i] w fun e w' => e = .returned (.tuple #[.int .u64 (m.getv a i), .bool (m.getb a i), .int .i64 (m.gete a i)]) ∧ Up w w' := by
  by_cases hf : m.fok a i
  · rw [show m.getv a i = _ from if_pos hf, show m.getb a i = _ from if_pos hf, gete_0.2 hf]
    exact rget_ok m a i P Q c d w hm ha hwf hf
  rw [show m.getv a i = 0 from if_neg hf, show m.getb a i = false from if_neg hf]
  by_cases h0 : m.kne a = 0
  · have hb : hasb (m.atl a) i = false := by
      cases h : hasb (m.atl a) i
      · rfl
      · exact absurd ⟨h0, h⟩ hf
    rw [show m.gete a i = 7 from (if_pos h0).trans (by rw [hb]; rfl)]
    by_cases i0 : i < 0
    · exact rget_lo m a i P Q c d w hm ha hwf h0 i0
    · exact rget_hi m a i P Q c d w hm ha hwf h0 (by omega) (by have := of_decide_eq_false hb; omega)
  rw [show m.gete a i = m.kne a from if_neg h0]
  by_cases hk : m.atok a
  · have ht : m.att a = 255 := by
      by_cases ht : m.att a = 255
      · exact ht
      · exact absurd (kne_0.2 ⟨hk, ht⟩) h0
    rw [show m.kne a = 8 from (if_pos hk).trans (by rw [ht]; rfl)]
    exact rget_fl m a i P Q c d w hm ha hwf hk ht
  · rw [show m.kne a = m.ate a from if_neg hk]
    exact rget_at m a i _ P Q c d w hm ha hwf rfl (fun q => hk (ate_0.1 q))

set_option maxHeartbeats 1000000 in
theorem rtwin_ok (m : Me) (a : Int) (P Q : Addr) (c d : Nat) (w : World) (hm : Sits w m P Q c d) (ha : U64 a) (hwf : m.wf) (hk : m.kne a = 0) :
    Calls Try.prog 13 #[.agg #[.int .i64 m.n, .slice (some P) m.n c, .slice (some Q) m.n d], .int .u64 a] w (fun e w' => e = .returned (.tuple #[.int .u64 (m.ld (a + 1)), .int .i64 0]) ∧ Up w w') := by
  obtain ⟨hth, b0, b1⟩ := tw_off hm.1.2.1 hk
  have hb : (m.att a == 255) = false := beq_eq_false_iff_ne.mpr (kne_0.1 hk).2
  have hat := fun (W : World) (hS : Sits W m P Q c d) => rat_any m a P Q c d W hS ha hwf
  rw [ate_0.2 (kne_0.1 hk).1] at hat
  have hat := Lib.hid hat
  have hl := Lib.hid (fun (W : World) (hS : Sits W m P Q c d) => show Calls Try.prog 29 #[.agg #[.int .i64 m.n, .slice (some P) m.n c, .slice (some Q) m.n d], .int .u64 (a + 1)] W fun e w' => e = .returned (.tuple #[.int .u64 (m.ld (a + 1)), .int .i64 0]) ∧ Up W w' from by
    have h := rload_any m (a + 1) P Q c d W hS ⟨b0, b1⟩
    rw [show m.lde (a + 1) = 0 from if_pos hth] at h
    exact h)
  have a0 := ha.1
  have HM := Lib.hid hm
  clear hm ha hwf hk hth
  generalize m.ld (a + 1) = v at hl ⊢
  generalize m.att a = t at hat hb
  generalize m.atl a = l at hat
  generalize m.atm a = mp at hat
  go_enter Try.func13, Try.ntmps13
  go_wp2_with (fail)
  refine (hat.out _ (HM.out.up ((Up.refl w).alloc _))).mono ?_
  rintro e w1 ⟨rfl, h1⟩
  have M1 : Blk w1 w.heap.size 25 #[.int .i64 m.n, .slice (some P) m.n c, .slice (some Q) m.n d] := (Blk.new' w rfl _ _).up h1
  have U1 : Up w w1 := ((Up.refl w).alloc _).trans h1
  clear h1
  have M1c := M1.cell
  have M1l := M1.lt
  go_wp2_with (fail)
  refine (hl.out _ ((HM.out.up U1).up ((Up.refl _).alloc _))).mono ?_
  rintro e w2 ⟨rfl, h2⟩
  have U2 := (U1.alloc _).trans h2
  go_wp2
  go_ret2
  exact ⟨rfl, U2⟩

theorem rtwin_any (m : Me) (a : Int) (P Q : Addr) (c d : Nat) (w : World) (hm : Sits w m P Q c d) (ha : U64 a) (hwf : m.wf) :
    Calls Try.prog 13 #[.agg #[.int .i64 m.n, .slice (some P) m.n c, .slice (some Q) m.n d], .int .u64 a] w fun e w' => e = .returned (.tuple #[.int .u64 (m.twv a), .int .i64 (m.kne a)]) ∧ Up w w' := by
  by_cases h0 : m.kne a = 0
  · rw [show m.twv a = _ from if_pos h0, h0]
    exact rtwin_ok m a P Q c d w hm ha hwf h0
  rw [show m.twv a = 0 from if_neg h0]
  by_cases hk : m.atok a
  · have ht : m.att a = 255 := by
      by_cases ht : m.att a = 255
      · exact ht
      · exact absurd (kne_0.2 ⟨hk, ht⟩) h0
    rw [show m.kne a = 8 from (if_pos hk).trans (by rw [ht]; rfl)]
    exact rtwin_fl m a P Q c d w hm ha hwf hk ht
  · rw [show m.kne a = m.ate a from if_neg hk]
    exact rtwin_at m a _ P Q c d w hm ha hwf rfl (fun q => hk (ate_0.1 q))

set_option maxHeartbeats 1000000 in
theorem rset_no (m : Me) (a : Int) (i v x : Int) (P Q : Addr) (c d : Nat) (w : World) (hm : Sits w m P Q c d) (ha : U64 a) (hwf : m.wf) (hf : ¬ m.fok a i) (hx : m.gete a i = x) :
    Calls Try.prog 24 #[.agg #[.int .i64 m.n, .slice (some P) m.n c, .slice (some Q) m.n d], .int .u64 a, .int .i64 i, .int .u64 v] w (Gives1 w m (.int .i64 x)) := by
  have hg := fun (W : World) (hS : Sits W m P Q c d) => rget_any m a i P Q c d W hS ha hwf
  rw [show m.getv a i = 0 from if_neg hf, show m.getb a i = false from if_neg hf, hx] at hg
  have hg := Lib.hid hg
  have HM := Lib.hid hm
  have hb : (x != 0) = true := bne_iff_ne.mpr (fun q => hf (gete_0.1 (hx.trans q)))
  clear hm ha hwf hf hx
  go_enter Try.func24, Try.ntmps24
  go_wp2_with (fail)
  refine (hg.out _ (HM.out.up (((Up.refl w).alloc _).alloc _))).mono ?_
  rintro e w1 ⟨rfl, h1⟩
  have M1 : Blk w1 w.heap.size 25 #[.int .i64 m.n, .slice (some P) m.n c, .slice (some Q) m.n d] := ((Blk.new' w rfl _ _).alloc (.cells #[.int .i64 0, .slice none 0 0, .slice none 0 0] 25)).up h1
  have R1 : Blk w1 (w.heap.size + 1) 25 #[.int .i64 0, .slice none 0 0, .slice none 0 0] := (Blk.new' (w.alloc (.cells #[.int .i64 m.n, .slice (some P) m.n c, .slice (some Q) m.n d] 25)) (by simp) _ _).up h1
  have U1 : Up w w1 := (((Up.refl w).alloc _).alloc _).trans h1
  clear h1
  have M1c := M1.cell
  have M1f := M1.frozen
  have M1l := M1.lt
  have R1c := R1.cell
  have R1f := R1.frozen
  have R1l := R1.lt
  go_wp2
  refine bodyPost_ret (v := .tuple #[.agg #[.int .i64 m.n, .slice (some P) m.n c, .slice (some Q) m.n d], .int .i64 x]) (by simp [results, Try.results24, go_sem, R1c, R1l]) rfl ⟨P, Q, c, d, rfl, (HM.out.up U1).far3 R1 _ _ _, U1.set3 (by omega) _ _ _⟩

set_option maxHeartbeats 2000000 in
theorem rset_ok (m : Me) (a : Int) (i v : Int) (P Q : Addr) (c d : Nat) (w : World) (hm : Sits w m P Q c d) (ha : U64 a) (hwf : m.wf) (hf : m.fok a i) :
    Calls Try.prog 24 #[.agg #[.int .i64 m.n, .slice (some P) m.n c, .slice (some Q) m.n d], .int .u64 a, .int .i64 i, .int .u64 v] w (Gives1 w (m.st (a + 2 + i) v) (.int .i64 0)) := by
  obtain ⟨hth, i0, i1, b0, b1⟩ := fok_off hm.1.2.1 hf
  have hg := fun (W : World) (hS : Sits W m P Q c d) => rget_any m a i P Q c d W hS ha hwf
  rw [gete_0.2 hf] at hg
  have hg := Lib.hid hg
  have hst := Lib.hid (fun (W : World) (hS : Sits W m P Q c d) => show Calls Try.prog 44 #[.agg #[.int .i64 m.n, .slice (some P) m.n c, .slice (some Q) m.n d], .int .u64 (a + 2 + i), .int .u64 v] W (Gives1 W (m.st (a + 2 + i) v) (.int .i64 0)) from by
    have h := rstore_any m (a + 2 + i) v P Q c d W hS ⟨b0, b1⟩
    rw [show m.lde (a + 2 + i) = 0 from if_pos hth] at h
    exact h)
  have a0 := ha.1
  have HM := Lib.hid hm
  clear hm ha hwf hf hth i1
  generalize m.st (a + 2 + i) v = K at hst ⊢
  go_enter Try.func24, Try.ntmps24
  go_wp2_with (fail)
  refine (hg.out _ (HM.out.up (((Up.refl w).alloc _).alloc _))).mono ?_
  rintro e w1 ⟨rfl, h1⟩
  have M1 : Blk w1 w.heap.size 25 #[.int .i64 m.n, .slice (some P) m.n c, .slice (some Q) m.n d] := ((Blk.new' w rfl _ _).alloc (.cells #[.int .i64 0, .slice none 0 0, .slice none 0 0] 25)).up h1
  have R1 : Blk w1 (w.heap.size + 1) 25 #[.int .i64 0, .slice none 0 0, .slice none 0 0] := (Blk.new' (w.alloc (.cells #[.int .i64 m.n, .slice (some P) m.n c, .slice (some Q) m.n d] 25)) (by simp) _ _).up h1
  have U1 : Up w w1 := (((Up.refl w).alloc _).alloc _).trans h1
  clear h1
  have M1c := M1.cell
  have M1f := M1.frozen
  have M1l := M1.lt
  have R1c := R1.cell
  have R1f := R1.frozen
  have R1l := R1.lt
  go_wp2_with (fail)
  refine (hst.out _ (HM.out.up U1)).mono ?_
  rintro e w2 ⟨P', Q', c', d', rfl, s2, h2⟩
  have R2 := R1.up h2
  have U2 := U1.trans h2
  clear h2 M1c M1f M1l R1c R1f R1l M1 R1 U1
  have R2c := R2.cell
  have R2f := R2.frozen
  have R2l := R2.lt
  go_wp2
  refine bodyPost_ret (v := .tuple #[.agg #[.int .i64 K.n, .slice (some P') K.n c', .slice (some Q') K.n d'], .int .i64 0]) (by simp [results, Try.results24, go_sem, R2c, R2l]) rfl ⟨P', Q', c', d', rfl, s2.far3 R2 _ _ _, U2.set3 (by omega) _ _ _⟩

theorem rset_any (m : Me) (a i v : Int) (P Q : Addr) (c d : Nat) (w : World) (hm : Sits w m P Q c d) (ha : U64 a) (hwf : m.wf) :
    Calls Try.prog 24 #[.agg #[.int .i64 m.n, .slice (some P) m.n c, .slice (some Q) m.n d], .int .u64 a, .int .i64 i, .int .u64 v] w (Gives1 w (m.setm a i v) (.int .i64 (m.gete a i))) := by
  by_cases hf : m.fok a i
  · rw [show m.setm a i v = _ from if_pos hf, gete_0.2 hf]
    exact rset_ok m a i v P Q c d w hm ha hwf hf
  · rw [show m.setm a i v = m from if_neg hf]
    exact rset_no m a i v _ P Q c d w hm ha hwf hf rfl

end Go.Proofs.Ytgcpkgogjcgfbaa
