/- The document's objects, plain facts of objects. -/
import Derived.Test.YtddoljfkbkbfjaaGreatAf
/-! Of stage 5 -/
namespace Go.Proofs.YtddoljfkbkbfjaaGreat
open Go.ChangeShapes Go.WideShapes Go.ChangeAt Go.RowKit
set_option linter.unusedVariables false
set_option linter.unusedSimpArgs false

set_option maxHeartbeats 1000000 in
theorem rat_far (m : Me) (a : Int) (P Q : Addr) (c d : Nat) (w : World) (hm : Sits w m P Q c d) (ha : U64 a) (ht : ¬ m.there a) :
    Calls Tryz.prog 34 #[.agg #[.int .i64 m.n, .slice (some P) m.n c, .slice (some Q) m.n d], .int .u64 a] w (fun e w' => e = .returned (.tuple #[hdv (m.att a) (m.atl a) (m.atm a), .int .i64 (m.ate a)]) ∧ Up w w') := by
  have hl := fun w => rload_no m a P Q c d w ha ht
  have HN := Lib.hid (at_no (m := m) (a := a) (fun q => ht q.1))
  have HE := Lib.hid (show m.ate a = 2 from if_neg ht)
  have hl := Lib.hid hl
  clear hm ha ht
  go_enter Tryz.func34, Tryz.ntmps34
  go_wp2_with (fail)
  refine (hl.out _).mono ?_
  rintro e w1 ⟨rfl, h1⟩
  have R1 : Blk w1 (w.heap.size + 1) 60 #[.int .i64 0, .int .i64 0, .int .u64 0] := (Blk.new' (w.alloc (.cells #[.int .i64 m.n, .slice (some P) m.n c, .slice (some Q) m.n d] 25)) (by simp) _ _).up h1
  have U1 : Up w w1 := (((Up.refl w).alloc _).alloc _).trans h1
  clear h1
  have R1c := R1.cell
  have R1f := R1.frozen
  have R1l := R1.lt
  go_wp2
  refine bodyPost_ret (v := .tuple #[hdv 0 0 0, .int .i64 2]) (by simp [results, Tryz.results34, go_sem, R1c, R1l]) rfl ⟨by rw [HN.out.1, HN.out.2.1, HN.out.2.2, HE.out], U1.set3 (by omega) _ _ _⟩

set_option maxHeartbeats 1000000 in
theorem rat_odd (m : Me) (a : Int) (P Q : Addr) (c d : Nat) (w : World) (hm : Sits w m P Q c d) (ha : U64 a) (hwf : m.wf) (ht : m.there a) (hk : ¬ tkb (m.ld a)) :
    Calls Tryz.prog 34 #[.agg #[.int .i64 m.n, .slice (some P) m.n c, .slice (some Q) m.n d], .int .u64 a] w (fun e w' => e = .returned (.tuple #[hdv (m.att a) (m.atl a) (m.atm a), .int .i64 (m.ate a)]) ∧ Up w w') := by
  have hv := hwf.ld a
  have hl := Lib.hid (fun (W : World) (hS : Sits W m P Q c d) => show Calls Tryz.prog 57 #[.agg #[.int .i64 m.n, .slice (some P) m.n c, .slice (some Q) m.n d], .int .u64 a] W fun e w' => e = .returned (.tuple #[.int .u64 (m.ld a), .int .i64 0]) ∧ Up W w' from by
    have h := rload_any m a P Q c d W hS ha
    rw [show m.lde a = 0 from if_pos ht] at h
    exact h)
  have htk := fun w => rtake_any (m.ld a) hv.1 hv.2 w
  rw [show tkt (m.ld a) = 0 from if_neg hk, show tkl (m.ld a) = 0 from if_neg hk, show tkm (m.ld a) = 0 from if_neg hk, show tke (m.ld a) = 10 from if_neg hk] at htk
  have HN := Lib.hid (at_no (m := m) (a := a) (fun q => hk q.2.1))
  have HE := Lib.hid (show m.ate a = 10 from (if_pos ht).trans (if_neg hk))
  have htk := Lib.hid htk
  have HM := Lib.hid hm
  clear hm ha ht hk hwf hv
  go_enter Tryz.func34, Tryz.ntmps34
  go_wp2_with (fail)
  refine (hl.out _ (HM.out.up (((Up.refl w).alloc _).alloc _))).mono ?_
  rintro e w1 ⟨rfl, h1⟩
  have M1 : Blk w1 w.heap.size 25 #[.int .i64 m.n, .slice (some P) m.n c, .slice (some Q) m.n d] := ((Blk.new' w rfl _ _).alloc (.cells #[.int .i64 0, .int .i64 0, .int .u64 0] 60)).up h1
  have R1 : Blk w1 (w.heap.size + 1) 60 #[.int .i64 0, .int .i64 0, .int .u64 0] := (Blk.new' (w.alloc (.cells #[.int .i64 m.n, .slice (some P) m.n c, .slice (some Q) m.n d] 25)) (by simp) _ _).up h1
  have U1 : Up w w1 := (((Up.refl w).alloc _).alloc _).trans h1
  clear h1
  have R1c := R1.cell
  have R1f := R1.frozen
  have R1l := R1.lt
  have M1c := M1.cell
  have M1f := M1.frozen
  have M1l := M1.lt
  go_wp2_with (fail)
  refine (htk.out _).mono ?_
  rintro e w2 ⟨rfl, h2⟩
  have U2 := U1.trans h2
  have R2c := (R1.up h2).cell
  have R2f := (R1.up h2).frozen
  have R2l := (R1.up h2).lt
  clear R1c R1f R1l M1c M1f M1l
  go_wp2
  refine bodyPost_ret (v := .tuple #[hdv 0 0 0, .int .i64 10]) (by simp [results, Tryz.results34, go_sem, R2c, R2l, Nat.ne_of_lt R2l]) rfl ⟨by rw [HN.out.1, HN.out.2.1, HN.out.2.2, HE.out], (U2.set3 (by omega) _ _ _).alloc _⟩

set_option maxHeartbeats 2000000 in
theorem rat_yes (m : Me) (a : Int) (P Q : Addr) (c d : Nat) (w : World) (hm : Sits w m P Q c d) (ha : U64 a) (hwf : m.wf) (ht : m.there a) (hk : tkb (m.ld a)) (b : Bool) (hb : decide (m.inn a (wdn (tgw (m.ld a)) (lnw (m.ld a)))) = b) :
    Calls Tryz.prog 34 #[.agg #[.int .i64 m.n, .slice (some P) m.n c, .slice (some Q) m.n d], .int .u64 a] w (fun e w' => e = .returned (.tuple #[hdv (m.att a) (m.atl a) (m.atm a), .int .i64 (m.ate a)]) ∧ Up w w') := by
  have hv := hwf.ld a
  have hl := Lib.hid (fun (W : World) (hS : Sits W m P Q c d) => show Calls Tryz.prog 57 #[.agg #[.int .i64 m.n, .slice (some P) m.n c, .slice (some Q) m.n d], .int .u64 a] W fun e w' => e = .returned (.tuple #[.int .u64 (m.ld a), .int .i64 0]) ∧ Up W w' from by
    have h := rload_any m a P Q c d W hS ha
    rw [show m.lde a = 0 from if_pos ht] at h
    exact h)
  have htk := fun w => rtake_any (m.ld a) hv.1 hv.2 w
  rw [show tkt (m.ld a) = _ from if_pos hk, show tkl (m.ld a) = _ from if_pos hk, show tkm (m.ld a) = _ from if_pos hk, show tke (m.ld a) = 0 from if_pos hk] at htk
  have hwd := Lib.hid (fun w => rhwords_any (tgw (m.ld a)) (lnw (m.ld a)) (mpw (m.ld a)) (mpw_nn _) hk w)
  have hth := fun w => rthere5_any m a (wdn (tgw (m.ld a)) (lnw (m.ld a))) P Q c d w hm.1.2.1 ha (wdn_small (mpw_nn _) hk).1
  rw [hb] at hth
  have hth := Lib.hid hth
  have htk := Lib.hid htk
  have HB := Lib.hid (show (b = true → m.atok a) ∧ m.ate a = unl b 2 from by
    refine ⟨fun q => ⟨ht, hk, of_decide_eq_true (hb.trans q)⟩, ?_⟩
    refine ((if_pos ht).trans (if_pos hk)).trans ?_
    rw [← hb]
    by_cases hi : m.inn a (wdn (tgw (m.ld a)) (lnw (m.ld a)))
    · rw [if_pos hi, decide_eq_true hi]; rfl
    · rw [if_neg hi, decide_eq_false hi]; rfl)
  have HB2 := Lib.hid (show b = false → ¬ m.atok a from fun q r => by rw [decide_eq_true r.2.2] at hb; rw [← hb] at q; cases q)
  have HM := Lib.hid hm
  clear hm ha ht hk hwf hv hb
  generalize wdn (tgw (m.ld a)) (lnw (m.ld a)) = k at hwd hth
  generalize hg1 : tgw (m.ld a) = t at htk hwd
  generalize hg2 : lnw (m.ld a) = l at htk hwd
  generalize hg3 : mpw (m.ld a) = mp at htk hwd
  have HG := Lib.hid (show tgw (m.ld a) = t ∧ lnw (m.ld a) = l ∧ mpw (m.ld a) = mp from ⟨hg1, hg2, hg3⟩)
  clear hg1 hg2 hg3
  go_enter Tryz.func34, Tryz.ntmps34
  go_wp2_with (fail)
  refine (hl.out _ (HM.out.up (((Up.refl w).alloc _).alloc _))).mono ?_
  rintro e w1 ⟨rfl, h1⟩
  have M1 : Blk w1 w.heap.size 25 #[.int .i64 m.n, .slice (some P) m.n c, .slice (some Q) m.n d] := ((Blk.new' w rfl _ _).alloc (.cells #[.int .i64 0, .int .i64 0, .int .u64 0] 60)).up h1
  have R1 : Blk w1 (w.heap.size + 1) 60 #[.int .i64 0, .int .i64 0, .int .u64 0] := (Blk.new' (w.alloc (.cells #[.int .i64 m.n, .slice (some P) m.n c, .slice (some Q) m.n d] 25)) (by simp) _ _).up h1
  have U1 : Up w w1 := (((Up.refl w).alloc _).alloc _).trans h1
  clear h1
  have R1c := R1.cell
  have R1f := R1.frozen
  have R1l := R1.lt
  have M1c := M1.cell
  have M1f := M1.frozen
  have M1l := M1.lt
  go_wp2_with (fail)
  refine (htk.out _).mono ?_
  rintro e w2 ⟨rfl, h2⟩
  have M2 := ((M1.up h2).alloc (.cells #[.int .i64 t, .int .i64 l, .int .u64 mp] 60)).drew
  have R2 := ((R1.up h2).alloc (.cells #[.int .i64 t, .int .i64 l, .int .u64 mp] 60)).drew
  have H2 := (Blk.new w2 60 #[.int .i64 t, .int .i64 l, .int .u64 mp]).drew
  have U2 := ((U1.trans h2).alloc (.cells #[.int .i64 t, .int .i64 l, .int .u64 mp] 60)).drew
  clear R1c R1f R1l M1c M1f M1l M1 R1 U1 h2
  go_wp2_with (fail)
  obtain ⟨W0, hW0⟩ : ∃ W0 : World, W0 = (w2.alloc (.cells #[.int .i64 t, .int .i64 l, .int .u64 mp] 60)).drew := ⟨_, rfl⟩
  have U0 : Up W0 (w2.alloc (.cells #[.int .i64 t, .int .i64 l, .int .u64 mp] 60)).drew := by rw [hW0]; exact Up.refl _
  rw [← hW0] at M2 R2 H2 U2
  clear hW0
  cases b
  all_goals
    go_region_held3 (fun w' => (∀ i, w'.cell? ⟨w.heap.size, i, none⟩ = (#[.int .i64 m.n, .slice (some P) m.n c, .slice (some Q) m.n d] : Array Value)[i]?) ∧ (∀ i, w'.cell? ⟨w2.heap.size, i, none⟩ = (#[.int .i64 t, .int .i64 l, .int .u64 mp] : Array Value)[i]?))
      (exact ⟨fun i => (Blk.up M2 (by assumption)).cell i, fun i => (Blk.up H2 (by assumption)).cell i⟩)
      (first
        | (go_at_call 39; ((with_reducible refine (hwd.out _).mono ?_); rintro e wz ⟨rfl, hz⟩; have UZ := Up.trans (a := W0) (by assumption) hz))
        | (go_at_call 59; ((with_reducible refine (hth.out _).mono ?_); rintro e wz ⟨rfl, hz⟩; have UZ := Up.trans (a := W0) (by assumption) hz)))
  · have HN := Lib.hid (at_no (HB2.out (by trivial)))
    have R3 := R2.up UZ
    have H3c := (H2.up UZ).cell
    have U3 := U2.trans UZ
    have R3c := R3.cell
    have R3f := R3.frozen
    have R3l := R3.lt
    go_wp2
    refine bodyPost_ret (v := .tuple #[hdv 0 0 0, .int .i64 2]) (by simp [results, Tryz.results34, go_sem, R3c, R3l]) rfl ⟨by rw [HN.out.1, HN.out.2.1, HN.out.2.2, HB.out.2]; rfl, U3.set3 (by omega) _ _ _⟩
  · have HN := Lib.hid (at_of (HB.out.1 (by trivial)))
    have R3 := R2.up UZ
    have H3c := (H2.up UZ).cell
    have U3 := U2.trans UZ
    have R3c := R3.cell
    have R3f := R3.frozen
    have R3l := R3.lt
    go_wp2
    refine bodyPost_ret (v := .tuple #[hdv t l mp, .int .i64 0]) (by simp [results, Tryz.results34, go_sem, R3c, R3l]) rfl ⟨by rw [HN.out.1, HN.out.2.1, HN.out.2.2, HB.out.2, HG.out.1, HG.out.2.1, HG.out.2.2]; rfl, U3.set3 (by omega) _ _ _⟩

theorem rat_any (m : Me) (a : Int) (P Q : Addr) (c d : Nat) (w : World) (hm : Sits w m P Q c d) (ha : U64 a) (hwf : m.wf) :
    Calls Tryz.prog 34 #[.agg #[.int .i64 m.n, .slice (some P) m.n c, .slice (some Q) m.n d], .int .u64 a] w (fun e w' => e = .returned (.tuple #[hdv (m.att a) (m.atl a) (m.atm a), .int .i64 (m.ate a)]) ∧ Up w w') := by
  by_cases ht : m.there a
  · by_cases hk : tkb (m.ld a)
    · exact rat_yes m a P Q c d w hm ha hwf ht hk _ rfl
    · exact rat_odd m a P Q c d w hm ha hwf ht hk
  · exact rat_far m a P Q c d w hm ha ht


end Go.Proofs.YtddoljfkbkbfjaaGreat
/-! Of stage 5 -/
namespace Go.Proofs.YtddoljfkbkbfjaaGreat
open Go.ChangeShapes Go.WideShapes Go.ChangeAt Go.RowKit
set_option linter.unusedVariables false
set_option linter.unusedSimpArgs false

set_option maxHeartbeats 1000000 in
theorem rget_at (m : Me) (a : Int) (i : Int) (x : Int) (P Q : Addr) (c d : Nat) (w : World) (hm : Sits w m P Q c d) (ha : U64 a) (hwf : m.wf) (hx : m.ate a = x) (h0 : x ≠ 0) :
    Calls Tryz.prog 35 #[.agg #[.int .i64 m.n, .slice (some P) m.n c, .slice (some Q) m.n d], .int .u64 a, .int .i64 i] w (fun e w' => e = .returned (.tuple #[.int .u64 0, .bool false, .int .i64 x]) ∧ Up w w') := by
  have HN := at_no (m := m) (a := a) (fun q => h0 (hx.symm.trans (ate_0.2 q)))
  have hat := fun (W : World) (hS : Sits W m P Q c d) => rat_any m a P Q c d W hS ha hwf
  rw [HN.1, HN.2.1, HN.2.2, hx] at hat
  have hat := Lib.hid hat
  have HM := Lib.hid hm
  have hb : (x != 0) = true := bne_iff_ne.mpr h0
  clear hm ha hwf hx h0 HN
  go_enter Tryz.func35, Tryz.ntmps35
  go_wp2_with (fail)
  refine (hat.out _ (HM.out.up ((Up.refl w).alloc _))).mono ?_
  rintro e w1 ⟨rfl, h1⟩
  have M1 : Blk w1 w.heap.size 25 #[.int .i64 m.n, .slice (some P) m.n c, .slice (some Q) m.n d] := (Blk.new' w rfl _ _).up h1
  have U1 : Up w w1 := ((Up.refl w).alloc _).trans h1
  clear h1
  have M1c := M1.cell
  have M1l := M1.lt
  go_wp2
  go_ret3
  exact ⟨rfl, U1.alloc _⟩

set_option maxHeartbeats 1000000 in
theorem rget_fl (m : Me) (a : Int) (i : Int) (P Q : Addr) (c d : Nat) (w : World) (hm : Sits w m P Q c d) (ha : U64 a) (hwf : m.wf) (hk : m.atok a) (ht : m.att a = 255) :
    Calls Tryz.prog 35 #[.agg #[.int .i64 m.n, .slice (some P) m.n c, .slice (some Q) m.n d], .int .u64 a, .int .i64 i] w (fun e w' => e = .returned (.tuple #[.int .u64 0, .bool false, .int .i64 8]) ∧ Up w w') := by
  generalize hl : m.atl a = l
  generalize hmp : m.atm a = mp
  have hat := fun (W : World) (hS : Sits W m P Q c d) => rat_any m a P Q c d W hS ha hwf
  rw [ht, ate_0.2 hk, hl, hmp] at hat
  have hat := Lib.hid hat
  have HM := Lib.hid hm
  clear hm ha hwf hk ht hl hmp
  go_enter Tryz.func35, Tryz.ntmps35
  go_wp2_with (fail)
  refine (hat.out _ (HM.out.up ((Up.refl w).alloc _))).mono ?_
  rintro e w1 ⟨rfl, h1⟩
  have M1 : Blk w1 w.heap.size 25 #[.int .i64 m.n, .slice (some P) m.n c, .slice (some Q) m.n d] := (Blk.new' w rfl _ _).up h1
  have U1 : Up w w1 := ((Up.refl w).alloc _).trans h1
  clear h1
  have M1c := M1.cell
  have M1l := M1.lt
  go_wp2
  go_ret3
  exact ⟨rfl, U1.alloc _⟩

set_option maxHeartbeats 1000000 in
theorem rget_lo (m : Me) (a : Int) (i : Int) (P Q : Addr) (c d : Nat) (w : World) (hm : Sits w m P Q c d) (ha : U64 a) (hwf : m.wf) (hk : m.kne a = 0) (hi : i < 0) :
    Calls Tryz.prog 35 #[.agg #[.int .i64 m.n, .slice (some P) m.n c, .slice (some Q) m.n d], .int .u64 a, .int .i64 i] w (fun e w' => e = .returned (.tuple #[.int .u64 0, .bool false, .int .i64 7]) ∧ Up w w') := by
  have hd : decide (i < 0) = true := decide_eq_true hi
  have hb : (m.att a == 255) = false := beq_eq_false_iff_ne.mpr (kne_0.1 hk).2
  have hat := fun (W : World) (hS : Sits W m P Q c d) => rat_any m a P Q c d W hS ha hwf
  rw [ate_0.2 (kne_0.1 hk).1] at hat
  have hat := Lib.hid hat
  have HM := Lib.hid hm
  clear hm ha hwf hk hi
  generalize m.att a = t at hat hb
  generalize m.atl a = l at hat
  generalize m.atm a = mp at hat
  go_enter Tryz.func35, Tryz.ntmps35
  go_wp2_with (fail)
  refine (hat.out _ (HM.out.up ((Up.refl w).alloc _))).mono ?_
  rintro e w1 ⟨rfl, h1⟩
  have M1 : Blk w1 w.heap.size 25 #[.int .i64 m.n, .slice (some P) m.n c, .slice (some Q) m.n d] := (Blk.new' w rfl _ _).up h1
  have U1 : Up w w1 := ((Up.refl w).alloc _).trans h1
  clear h1
  have M1c := M1.cell
  have M1l := M1.lt
  go_wp2
  go_ret3
  exact ⟨rfl, U1.alloc _⟩

set_option maxHeartbeats 1000000 in
theorem rget_hi (m : Me) (a : Int) (i : Int) (P Q : Addr) (c d : Nat) (w : World) (hm : Sits w m P Q c d) (ha : U64 a) (hwf : m.wf) (hk : m.kne a = 0) (h0 : 0 ≤ i) (hi : m.atl a ≤ i) :
    Calls Tryz.prog 35 #[.agg #[.int .i64 m.n, .slice (some P) m.n c, .slice (some Q) m.n d], .int .u64 a, .int .i64 i] w (fun e w' => e = .returned (.tuple #[.int .u64 0, .bool false, .int .i64 7]) ∧ Up w w') := by
  have hd : decide (m.atl a ≤ i) = true := decide_eq_true hi
  have hb : (m.att a == 255) = false := beq_eq_false_iff_ne.mpr (kne_0.1 hk).2
  have hat := fun (W : World) (hS : Sits W m P Q c d) => rat_any m a P Q c d W hS ha hwf
  rw [ate_0.2 (kne_0.1 hk).1] at hat
  have hat := Lib.hid hat
  have HM := Lib.hid hm
  clear hm ha hwf hk hi
  generalize m.att a = t at hat hb
  generalize m.atl a = l at hat hd
  generalize m.atm a = mp at hat
  go_enter Tryz.func35, Tryz.ntmps35
  go_wp2_with (fail)
  refine (hat.out _ (HM.out.up ((Up.refl w).alloc _))).mono ?_
  rintro e w1 ⟨rfl, h1⟩
  have M1 : Blk w1 w.heap.size 25 #[.int .i64 m.n, .slice (some P) m.n c, .slice (some Q) m.n d] := (Blk.new' w rfl _ _).up h1
  have U1 : Up w w1 := ((Up.refl w).alloc _).trans h1
  clear h1
  have M1c := M1.cell
  have M1l := M1.lt
  go_wp2
  go_ret3
  exact ⟨rfl, U1.alloc _⟩

set_option maxHeartbeats 2000000 in
theorem rget_ok (m : Me) (a : Int) (i : Int) (P Q : Addr) (c d : Nat) (w : World) (hm : Sits w m P Q c d) (ha : U64 a) (hwf : m.wf) (hf : m.fok a i) :
    Calls Tryz.prog 35 #[.agg #[.int .i64 m.n, .slice (some P) m.n c, .slice (some Q) m.n d], .int .u64 a, .int .i64 i] w (fun e w' => e = .returned (.tuple #[.int .u64 (m.ld (a + 2 + i)), .bool (ptb (m.atl a) (m.atm a) i), .int .i64 0]) ∧ Up w w') := by
  obtain ⟨hth, i0, i1, b0, b1⟩ := fok_off hm.1.2.1 hf
  have hk := hf.1
  have hb : (m.att a == 255) = false := beq_eq_false_iff_ne.mpr (kne_0.1 hk).2
  have hat := fun (W : World) (hS : Sits W m P Q c d) => rat_any m a P Q c d W hS ha hwf
  rw [ate_0.2 (kne_0.1 hk).1] at hat
  have hat := Lib.hid hat
  have hl := Lib.hid (fun (W : World) (hS : Sits W m P Q c d) => show Calls Tryz.prog 57 #[.agg #[.int .i64 m.n, .slice (some P) m.n c, .slice (some Q) m.n d], .int .u64 (a + 2 + i)] W fun e w' => e = .returned (.tuple #[.int .u64 (m.ld (a + 2 + i)), .int .i64 0]) ∧ Up W w' from by
    have h := rload_any m (a + 2 + i) P Q c d W hS ⟨b0, b1⟩
    rw [show m.lde (a + 2 + i) = 0 from if_pos hth] at h
    exact h)
  have hp := Lib.hid (fun w => rptr_any (m.att a) (m.atl a) (m.atm a) i (atm_nn m a) (by have := atm_hi m a; omega) (by have := atl_16 hk; omega) w)
  have a0 := ha.1
  have q0 : decide (m.atl a ≤ i) = false := decide_eq_false (by omega)
  have HM := Lib.hid hm
  clear hm ha hwf hk hf hth
  generalize m.ld (a + 2 + i) = v at hl ⊢
  generalize ptb (m.atl a) (m.atm a) i = pb at hp ⊢
  generalize m.att a = t at hat hb hp
  generalize m.atl a = l at hat hp q0 i1
  generalize m.atm a = mp at hat hp
  go_enter Tryz.func35, Tryz.ntmps35
  go_wp2_with (fail)
  refine (hat.out _ (HM.out.up ((Up.refl w).alloc _))).mono ?_
  rintro e w1 ⟨rfl, h1⟩
  have M1 : Blk w1 w.heap.size 25 #[.int .i64 m.n, .slice (some P) m.n c, .slice (some Q) m.n d] := (Blk.new' w rfl _ _).up h1
  have U1 : Up w w1 := ((Up.refl w).alloc _).trans h1
  clear h1
  have M1c := M1.cell
  have M1l := M1.lt
  go_wp2_with (fail)
  refine (hl.out _ ((HM.out.up U1).up ((Up.refl _).alloc _))).mono ?_
  rintro e w2 ⟨rfl, h2⟩
  have H2c := ((Blk.new w1 60 (hcs t l mp)).up h2).cell
  have U2 := (U1.alloc _).trans h2
  clear h2 M1c M1l
  go_wp2_with (fail)
  refine (hp.out _).mono ?_
  rintro e w3 ⟨rfl, h3⟩
  go_wp2
  go_ret3
  exact ⟨rfl, U2.trans h3⟩

theorem rget_any (m : Me) (a i : Int) (P Q : Addr) (c d : Nat) (w : World) (hm : Sits w m P Q c d) (ha : U64 a) (hwf : m.wf) :
    Calls Tryz.prog 35 #[.agg #[.int .i64 m.n, .slice (some P) m.n c, .slice (some Q) m.n d], .int .u64 a, .int .i64 i] w fun e w' => e = .returned (.tuple #[.int .u64 (m.getv a i), .bool (m.getb a i), .int .i64 (m.gete a i)]) ∧ Up w w' := by
  by_cases hf : m.fok a i
  · rw [show m.getv a i = _ from if_pos hf, show m.getb a i = _ from if_pos hf, gete_0.2 hf]
    exact rget_ok m a i P Q c d w hm ha hwf hf
  rw [show m.getv a i = 0 from if_neg hf, show m.getb a i = false from if_neg hf]
  by_cases h0 : m.kne a = 0
  · have hb : hasb (m.atl a) i = false := by
      cases h : hasb (m.atl a) i
      · rfl
      · exact absurd ⟨h0, h⟩ hf
    rw [show m.gete a i = 7 from (if_pos h0).trans (by rw [hb]; rfl)]
    by_cases i0 : i < 0
    · exact rget_lo m a i P Q c d w hm ha hwf h0 i0
    · exact rget_hi m a i P Q c d w hm ha hwf h0 (by omega) (by have := of_decide_eq_false hb; omega)
  rw [show m.gete a i = m.kne a from if_neg h0]
  by_cases hk : m.atok a
  · have ht : m.att a = 255 := by
      by_cases ht : m.att a = 255
      · exact ht
      · exact absurd (kne_0.2 ⟨hk, ht⟩) h0
    rw [show m.kne a = 8 from (if_pos hk).trans (by rw [ht]; rfl)]
    exact rget_fl m a i P Q c d w hm ha hwf hk ht
  · rw [show m.kne a = m.ate a from if_neg hk]
    exact rget_at m a i _ P Q c d w hm ha hwf rfl (fun q => hk (ate_0.1 q))


end Go.Proofs.YtddoljfkbkbfjaaGreat
/-! Of stage 5 -/
namespace Go.Proofs.YtddoljfkbkbfjaaGreat
open Go.ChangeShapes Go.WideShapes Go.ChangeAt Go.RowKit
set_option linter.unusedVariables false
set_option linter.unusedSimpArgs false

/-- Where the memory of a round lies. -/
def PutRel (m : Me) (a : Int) (L B : Nat) (w0 : World) (i : Value) (wr : World) : Prop := ∃ k : Nat, k ≤ L ∧ i = .int .i64 (k : Int) ∧ Kp [B] w0 wr ∧ ∃ P Q c d, Box wr B (m.zs a k) P Q c d


end Go.Proofs.YtddoljfkbkbfjaaGreat
/-! Of stage 5 -/
namespace Go.Proofs.YtddoljfkbkbfjaaGreat
open Go.ChangeShapes Go.WideShapes Go.ChangeAt Go.RowKit
set_option linter.unusedVariables false
set_option linter.unusedSimpArgs false

theorem wrd_parts {t l mp : Int} (hmp : 0 ≤ mp) (h : rte t l mp = 0) : tgw (wrd t l mp) = t ∧ lnw (wrd t l mp) = l ∧ mpw (wrd t l mp) = mp ∧ U64 (wrd t l mp) := by
  obtain ⟨h0, h1, h2, h3, h4, h5⟩ := rte_small hmp h
  unfold tgw lnw mpw wrd U64
  refine ⟨?_, ?_, ?_, ?_, ?_⟩ <;> omega

theorem Me.ok.put {m : Me} (h : m.ok) (s : Int) {l : List Int} (hl : l.length = m.n) : (m.put s l).ok := by
  unfold Me.put
  split
  · exact ⟨h.1, h.2.1, h.2.2.1, hl⟩
  · exact ⟨h.1, h.2.1, hl, h.2.2.2⟩
theorem Me.ok.st {m : Me} (h : m.ok) (a v : Int) : (m.st a v).ok := by
  unfold Me.st
  split
  · exact h.put _ (by rw [List.length_set, Me.len_sp h])
  · exact h
theorem Me.ok.zs {m : Me} (h : m.ok) (a : Int) (k : Nat) : (m.zs a k).ok := by
  induction k with
  | zero => exact h
  | succ k ih => exact ih.st _ _
theorem zs_out {m : Me} {a b : Int} {k : Nat} (h : ∀ j : Nat, j < k → b ≠ a + (j + 1)) : (m.zs a k).ld b = m.ld b := by
  induction k with
  | zero => rfl
  | succ k ih =>
    show ((m.zs a k).st (a + (k + 1)) 0).ld b = m.ld b
    rw [st_other (fun e => h k (by omega) e.symm)]
    exact ih (fun j hj => h j (by omega))
theorem zs_in {m : Me} (hm : m.ok) {a : Int} {k : Nat} (h : ∀ j : Nat, j < k → m.there (a + (j + 1))) : ∀ j : Nat, j < k → (m.zs a k).ld (a + (j + 1)) = 0 := by
  induction k with
  | zero => intro j hj; omega
  | succ k ih =>
    intro j hj
    show ((m.zs a k).st (a + (k + 1)) 0).ld (a + (j + 1)) = 0
    by_cases e : j = k
    · subst e
      exact st_ld (hm.zs a j) ((there_n (Me.zs_n m a j) _).2 (h j (by omega)))
    · rw [st_other (by omega)]
      exact ih (fun i hi => h i (by omega)) j (by omega)

section
variable {m : Me} {a t l mp : Int}
theorem blk_n (m : Me) (a t l : Int) : (m.blk a t l).n = m.n := by
  unfold Me.blk
  split
  · rfl
  · exact Me.zs_n _ _ _
theorem put_n (m : Me) (a t l mp : Int) : (m.putm a t l mp).n = m.n := by
  unfold Me.putm
  split
  · exact (blk_n _ _ _ _).trans (Me.st_n _ _ _)
  · rfl
theorem put_wf (hmp : 0 ≤ mp) (hw : m.wf) : (m.putm a t l mp).wf := by
  unfold Me.putm
  split
  · rename_i h
    have := hw.st (wrd_parts hmp h.1).2.2.2 a
    unfold Me.blk
    split
    · exact this
    · exact this.zs _ _
  · exact hw
theorem put_ld (hm : m.ok) (hmp : 0 ≤ mp) (h : m.pok a t l mp) : (m.putm a t l mp).ld a = wrd t l mp := by
  have e := st_ld hm (v := wrd t l mp) (pok_there hmp h)
  rw [show m.putm a t l mp = _ from if_pos h]
  unfold Me.blk
  split
  · exact e
  · rw [zs_out (fun j _ => by omega)]
    exact e
theorem put_at (hm : m.ok) (hmp : 0 ≤ mp) (h : m.pok a t l mp) : (m.putm a t l mp).atok a ∧ (m.putm a t l mp).att a = t ∧ (m.putm a t l mp).atl a = l ∧ (m.putm a t l mp).atm a = mp := by
  have e := put_ld hm hmp h
  obtain ⟨e1, e2, e3, e4⟩ := wrd_parts hmp h.1
  have hk : (m.putm a t l mp).atok a := by
    refine ⟨(there_n (put_n m a t l mp) a).2 (pok_there hmp h), ?_, ?_⟩
    · rw [e]; unfold tkb; rw [e1, e2, e3]; exact h.1
    · rw [e, e1, e2]; exact (inn_n (put_n m a t l mp) a _).2 h.2
  obtain ⟨q1, q2, q3⟩ := at_of hk
  rw [q1, q2, q3, e, e1, e2, e3]
  exact ⟨hk, rfl, rfl, rfl⟩
theorem put_zero (hm : m.ok) (hmp : 0 ≤ mp) (h : m.pok a t l mp) (ht : t ≠ 255) (j : Int) (h0 : 1 ≤ j) (h1 : j < l + 2) : (m.putm a t l mp).ld (a + j) = 0 := by
  rw [show m.putm a t l mp = _ from if_pos h, show (m.st a (wrd t l mp)).blk a t l = _ from if_neg ht]
  have hi := h.2
  rw [show wdn t l = l + 2 from if_neg ht] at hi
  have e := zs_in (hm.st a (wrd t l mp)) (a := a) (k := (l + 1).toNat) (fun j hj => (there_n (Me.st_n _ _ _) _).2 (inn_off (j := (j + 1 : Int)) hm.2.1 hi (by omega) (by omega)).2.2.1) (j - 1).toNat (by omega)
  rw [show a + (((j - 1).toNat : Int) + 1) = a + j from by omega] at e
  exact e
theorem put_out (hmp : 0 ≤ mp) (b : Int) (hb : b < a ∨ a + wdn t l ≤ b) : (m.putm a t l mp).ld b = m.ld b := by
  unfold Me.putm
  split
  · rename_i h
    have hw := (wdn_small hmp h.1).1
    have e : (m.st a (wrd t l mp)).ld b = m.ld b := st_other (by omega)
    unfold Me.blk
    split
    · exact e
    · rename_i ht
      have hl := (rte_small hmp h.1).2.2.1
      rw [show wdn t l = l + 2 from if_neg ht] at hb
      rw [zs_out (fun j hj => by omega)]
      exact e
  · rfl
theorem put_kne (hm : m.ok) (hmp : 0 ≤ mp) (h : m.pok a t l mp) : (m.putm a t l mp).kne a = unl (t != 255) 8 := by
  obtain ⟨h1, h2, _, _⟩ := put_at hm hmp h
  exact (if_pos h1).trans (by rw [h2])
end

section
variable {m s : Me} {a : Int}
theorem same_ok (hn : s.n = m.n) (hl : s.ld a = m.ld a) : s.atok a ↔ m.atok a := by
  unfold Me.atok
  rw [hl, there_n hn, inn_n hn]
theorem same_at (hn : s.n = m.n) (hl : s.ld a = m.ld a) : s.att a = m.att a ∧ s.atl a = m.atl a ∧ s.atm a = m.atm a := by
  by_cases h : m.atok a
  · obtain ⟨e1, e2, e3⟩ := at_of h
    obtain ⟨f1, f2, f3⟩ := at_of ((same_ok hn hl).2 h)
    rw [e1, e2, e3, f1, f2, f3, hl]
    exact ⟨rfl, rfl, rfl⟩
  · obtain ⟨e1, e2, e3⟩ := at_no h
    obtain ⟨f1, f2, f3⟩ := at_no (fun q => h ((same_ok hn hl).1 q))
    rw [e1, e2, e3, f1, f2, f3]
    exact ⟨rfl, rfl, rfl⟩
theorem same_ate (hn : s.n = m.n) (hl : s.ld a = m.ld a) : s.ate a = m.ate a := by
  unfold Me.ate
  rw [hl]
  by_cases h : m.there a
  · rw [if_pos h, if_pos ((there_n hn a).2 h)]
    by_cases k : m.inn a (wdn (tgw (m.ld a)) (lnw (m.ld a)))
    · rw [if_pos k, if_pos ((inn_n hn a _).2 k)]
    · rw [if_neg k, if_neg (fun q => k ((inn_n hn a _).1 q))]
  · rw [if_neg h, if_neg (fun q => h ((there_n hn a).1 q))]
theorem same_kne (hn : s.n = m.n) (hl : s.ld a = m.ld a) : s.kne a = m.kne a := by
  unfold Me.kne
  rw [(same_at hn hl).1, same_ate hn hl]
  by_cases h : m.atok a
  · rw [if_pos h, if_pos ((same_ok hn hl).2 h)]
  · rw [if_neg h, if_neg (fun q => h ((same_ok hn hl).1 q))]
theorem same_fok (hn : s.n = m.n) (hl : s.ld a = m.ld a) (i : Int) : s.fok a i ↔ m.fok a i := by
  unfold Me.fok
  rw [same_kne hn hl, (same_at hn hl).2.1]
theorem same_gete (hn : s.n = m.n) (hl : s.ld a = m.ld a) (i : Int) : s.gete a i = m.gete a i := by
  unfold Me.gete
  rw [same_kne hn hl, (same_at hn hl).2.1]
theorem same_twv (hn : s.n = m.n) (hl : s.ld a = m.ld a) (h1 : s.ld (a + 1) = m.ld (a + 1)) : s.twv a = m.twv a := by
  unfold Me.twv
  rw [same_kne hn hl, h1]
theorem same_getv (hn : s.n = m.n) (hl : s.ld a = m.ld a) (i : Int) (h1 : m.fok a i → s.ld (a + 2 + i) = m.ld (a + 2 + i)) : s.getv a i = m.getv a i := by
  unfold Me.getv
  by_cases h : m.fok a i
  · rw [if_pos h, if_pos ((same_fok hn hl i).2 h)]
    exact h1 h
  · rw [if_neg h, if_neg (fun q => h ((same_fok hn hl i).1 q))]
theorem same_getb (hn : s.n = m.n) (hl : s.ld a = m.ld a) (i : Int) : s.getb a i = m.getb a i := by
  unfold Me.getb
  rw [(same_at hn hl).2.1, (same_at hn hl).2.2]
  by_cases h : m.fok a i
  · rw [if_pos h, if_pos ((same_fok hn hl i).2 h)]
  · rw [if_neg h, if_neg (fun q => h ((same_fok hn hl i).1 q))]
end
section
variable {m : Me} {a i v : Int}
theorem set_n (m : Me) (a i v : Int) : (m.setm a i v).n = m.n := by
  unfold Me.setm
  split
  · exact Me.st_n _ _ _
  · rfl
theorem set_wf (hw : m.wf) (hv : U64 v) : (m.setm a i v).wf := by
  unfold Me.setm
  split
  · exact hw.st hv _
  · exact hw
theorem set_ld (h : m.fok a i) (b : Int) (hb : b ≠ a + 2 + i) : (m.setm a i v).ld b = m.ld b := by
  rw [show m.setm a i v = _ from if_pos h]
  exact st_other (Ne.symm hb)
theorem set_got (hm : m.ok) (h : m.fok a i) : (m.setm a i v).ld (a + 2 + i) = v := by
  rw [show m.setm a i v = _ from if_pos h]
  exact st_ld hm (fok_off hm.2.1 h).1
end

end Go.Proofs.YtddoljfkbkbfjaaGreat
/-! Of stage 5 -/
namespace Go.Proofs.YtddoljfkbkbfjaaGreat
open Go.Joins Go.ChangeShapes Go.WideShapes Go.ChangeAt Go.RowKit Go.Deep
set_option linter.unusedVariables false
set_option linter.unusedSimpArgs false

/-- Are two heads the same? -/
def hsame (t l m t' l' m' : Int) : Bool := t == t' && (l == l' && m == m')
theorem hsame_self (t l m : Int) : hsame t l m t l m = true := by simp [hsame]
theorem eq_head (t l m t' l' m' : Int) (w : World) : (binOp .eql 60 (hdv t l m) (hdv t' l' m')).run Tryz.prog w = .ok (.bool (hsame t l m t' l' m')) w := by
  rw [run_eql_struct, run_equalIn_agg _ _ _ _ _ (by rw [fieldsOf_of Tryz.underlying60]; exact Tryz.underlying60) (by kernel_rfl), fieldsOf_of Tryz.underlying60]
  simp [Op.eqFields, go_sem, hsame]
  by_cases h : t = t' <;> by_cases k : l = l' <;> by_cases j : m = m' <;> simp [h, k, j]
theorem ne_head (t l m t' l' m' : Int) (w : World) : (binOp .neq 60 (hdv t l m) (hdv t' l' m')).run Tryz.prog w = .ok (.bool (!hsame t l m t' l' m')) w := by
  rw [run_neq_struct, run_equalIn_agg _ _ _ _ _ (by rw [fieldsOf_of Tryz.underlying60]; exact Tryz.underlying60) (by kernel_rfl), fieldsOf_of Tryz.underlying60]
  simp [Op.eqFields, go_sem, hsame]
  by_cases h : t = t' <;> by_cases k : l = l' <;> by_cases j : m = m' <;> simp [h, k, j]

theorem cells_head : Tryz.prog.cellsOf 60 = 3 := by kernel_rfl
def few (N : Int) (n0 n1 : Nat) : Bool := rt N n0 n1 && decide (N ≤ 200)
theorem few_is {N : Int} {n0 n1 : Nat} (h : few N n0 n1 = true) : N = n0 ∧ n0 = n1 ∧ 16 ≤ n0 ∧ n0 ≤ 200 := by
  unfold few at h
  rw [Bool.and_eq_true] at h
  obtain ⟨h1, h2⟩ := h
  obtain ⟨a, b, c, d⟩ := of_decide_eq_true h1
  have e := of_decide_eq_true h2
  omega
section
variable {H : Type} {enc : TypeId × Value → H} {w : World}
/-- A head that was handed in, among others' cells. -/
theorem head_cells {fuel : Nat} {v0 v1 v2 : Value} {x : DataW H × List MemPlace} (h : DataW.trod enc Tryz.prog w 0 (fun _ => true) true fuel 60 [v0, v1, v2] = some x) :
    ∃ t l mp : Int, v0 = .int .i64 t ∧ v1 = .int .i64 l ∧ v2 = .int .u64 mp ∧ I64 t ∧ I64 l ∧ U64 mp := by
  obtain ⟨ys, n, _, _, _, hlen, hf⟩ := DataW.trod_struct Tryz.underlying60 h
  have f0 := hf 0 _ rfl
  have f1 := hf 1 _ rfl
  have f2 := hf 2 _ rfl
  match ys, hlen with
  | [y0, y1, y2], _ =>
    change DataW.trod enc Tryz.prog w 0 (fun _ => true) true n 3 (([v0, v1, v2].drop 0).take (Tryz.prog.cellsOf 3)) = some y0 at f0
    change DataW.trod enc Tryz.prog w 0 (fun _ => true) true n 3 (([v0, v1, v2].drop 1).take (Tryz.prog.cellsOf 3)) = some y1 at f1
    change DataW.trod enc Tryz.prog w 0 (fun _ => true) true n 54 (([v0, v1, v2].drop 2).take (Tryz.prog.cellsOf 54)) = some y2 at f2
    rw [cells_int] at f0 f1
    rw [cells_u64] at f2
    obtain ⟨t, rfl, ht⟩ := int_open (v := v0) f0
    obtain ⟨l, rfl, hl⟩ := int_open (v := v1) f1
    obtain ⟨mp, rfl, hmp⟩ := u64_open (v := v2) f2
    exact ⟨t, l, mp, rfl, rfl, rfl, ht, hl, hmp⟩
end
theorem sits_wf {w : World} {n : Nat} {A0 A1 : Option Addr} {c0 c1 : Nat} {xs ys : List Int} (h0 : SlOk w A0 n c0 xs) (h1 : SlOk w A1 n c1 ys) : (⟨n, xs, ys⟩ : Me).wf := ⟨h0.2.2.2, h1.2.2.2⟩

theorem three {w V : World} {c0 c1 c2 : Array Value} {t0 t1 t2 : TypeId} (h : V = (((w.alloc (.cells c0 t0)).alloc (.cells c1 t1)).alloc (.cells c2 t2)).drew) : Up w V ∧ Blk V w.heap.size t0 c0 ∧ Blk V (w.heap.size + 1) t1 c1 ∧ Blk V (w.heap.size + 1 + 1) t2 c2 := by
  subst h
  exact ⟨((((Up.refl w).alloc _).alloc _).alloc _).drew, (((Blk.new' w rfl _ _).alloc _).alloc _).drew, ((Blk.new' _ (by simp) _ _).alloc _).drew, (Blk.new' _ (by simp) _ _).drew⟩

end Go.Proofs.YtddoljfkbkbfjaaGreat
