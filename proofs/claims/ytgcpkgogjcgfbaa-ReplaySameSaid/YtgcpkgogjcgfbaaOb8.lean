/- The document's answers for objects (dovecoteref05: At, Get, Twin): contracts. -/
import Derived.Test.YtgcpkgogjcgfbaaOb7
namespace Go.Proofs.Ytgcpkgogjcgfbaa
open Go.ChangeShapes Go.WideShapes Go.ChangeAt Go.RowKit
set_option linter.unusedVariables false
set_option linter.unusedSimpArgs false

set_option maxHeartbeats 1000000 in
theorem rat_far (m : Me) (a : Int) (P Q : Addr) (c d : Nat) (w : World) (hm : Sits w m P Q c d) (ha : U64 a) (ht : ¬ m.there a) :
    Calls Try.prog 18 #[.agg #[.int .i64 m.n, .slice (some P) m.n c, .slice (some Q) m.n d], .int .u64 a] w (fun e w' => e = .returned (.tuple #[hdv (m.att a) (m.atl a) (m.atm a), .int .i64 (m.ate a)]) ∧ Up w w') := by
  have hl := fun w => rload_no m a P Q c d w ha ht
  have HN := Lib.hid (at_no (m := m) (a := a) (fun q => ht q.1))
  have HE := Lib.hid (show m.ate a = 2 from if_neg ht)
  have hl := Lib.hid hl
  clear hm ha ht
  go_enter Try.func18, Try.ntmps18
  go_wp2_with (fail)
  refine (hl.out _).mono ?_
  rintro e w1 ⟨rfl, h1⟩
  have R1 : Blk w1 (w.heap.size + 1) 55 #[.int .i64 0, .int .i64 0, .int .u64 0] := (Blk.new' (w.alloc (.cells #[.int .i64 m.n, .slice (some P) m.n c, .slice (some Q) m.n d] 25)) (by simp) _ _).up h1
  have U1 : Up w w1 := (((Up.refl w).alloc _).alloc _).trans h1
  clear h1
  have R1c := R1.cell
  have R1f := R1.frozen
  have R1l := R1.lt
  go_wp2
  refine bodyPost_ret (v := .tuple #[hdv 0 0 0, .int .i64 2]) (by simp [results, Try.results18, go_sem, R1c, R1l]) rfl ⟨by rw [HN.out.1, HN.out.2.1, HN.out.2.2, HE.out], U1.set3 (by omega) _ _ _⟩

set_option maxHeartbeats 1000000 in
theorem rat_odd (m : Me) (a : Int) (P Q : Addr) (c d : Nat) (w : World) (hm : Sits w m P Q c d) (ha : U64 a) (hwf : m.wf) (ht : m.there a) (hk : ¬ tkb (m.ld a)) :
    Calls Try.prog 18 #[.agg #[.int .i64 m.n, .slice (some P) m.n c, .slice (some Q) m.n d], .int .u64 a] w (fun e w' => e = .returned (.tuple #[hdv (m.att a) (m.atl a) (m.atm a), .int .i64 (m.ate a)]) ∧ Up w w') := by
  have hv := hwf.ld a
  have hl := Lib.hid (fun (W : World) (hS : Sits W m P Q c d) => show Calls Try.prog 29 #[.agg #[.int .i64 m.n, .slice (some P) m.n c, .slice (some Q) m.n d], .int .u64 a] W fun e w' => e = .returned (.tuple #[.int .u64 (m.ld a), .int .i64 0]) ∧ Up W w' from by
    have h := rload_any m a P Q c d W hS ha
    rw [show m.lde a = 0 from if_pos ht] at h
    exact h)
  have htk := fun w => rtake_any (m.ld a) hv.1 hv.2 w
  rw [show tkt (m.ld a) = 0 from if_neg hk, show tkl (m.ld a) = 0 from if_neg hk, show tkm (m.ld a) = 0 from if_neg hk, show tke (m.ld a) = 10 from if_neg hk] at htk
  have HN := Lib.hid (at_no (m := m) (a := a) (fun q => hk q.2.1))
  have HE := Lib.hid (show m.ate a = 10 from (if_pos ht).trans (if_neg hk))
  have htk := Lib.hid htk
  have HM := Lib.hid hm
  clear hm ha ht hk hwf hv
  go_enter Try.func18, Try.ntmps18
  go_wp2_with (fail)
  refine (hl.out _ (HM.out.up (((Up.refl w).alloc _).alloc _))).mono ?_
  rintro e w1 ⟨rfl, h1⟩
  have M1 : Blk w1 w.heap.size 25 #[.int .i64 m.n, .slice (some P) m.n c, .slice (some Q) m.n d] := ((Blk.new' w rfl _ _).alloc (.cells #[.int .i64 0, .int .i64 0, .int .u64 0] 55)).up h1
  have R1 : Blk w1 (w.heap.size + 1) 55 #[.int .i64 0, .int .i64 0, .int .u64 0] := (Blk.new' (w.alloc (.cells #[.int .i64 m.n, .slice (some P) m.n c, .slice (some Q) m.n d] 25)) (by simp) _ _).up h1
  have U1 : Up w w1 := (((Up.refl w).alloc _).alloc _).trans h1
  clear h1
  have R1c := R1.cell
  have R1f := R1.frozen
  have R1l := R1.lt
  have M1c := M1.cell
  have M1f := M1.frozen
  have M1l := M1.lt
  go_wp2_with (fail)
  refine (htk.out _).mono ?_
  rintro e w2 ⟨rfl, h2⟩
  have U2 := U1.trans h2
  have R2c := (R1.up h2).cell
  have R2f := (R1.up h2).frozen
  have R2l := (R1.up h2).lt
  clear R1c R1f R1l M1c M1f M1l
  go_wp2
  refine bodyPost_ret (v := .tuple #[hdv 0 0 0, .int .i64 10]) (by simp [results, Try.results18, go_sem, R2c, R2l, Nat.ne_of_lt R2l]) rfl ⟨by rw [HN.out.1, HN.out.2.1, HN.out.2.2, HE.out], (U2.set3 (by omega) _ _ _).alloc _⟩

set_option maxHeartbeats 2000000 in
theorem rat_yes (m : Me) (a : Int) (P Q : Addr) (c d : Nat) (w : World) (hm : Sits w m P Q c d) (ha : U64 a) (hwf : m.wf) (ht : m.there a) (hk : tkb (m.ld a)) (b : Bool) (hb : decide (m.inn a (wdn (tgw (m.ld a)) (lnw (m.ld a)))) = b) :
    Calls Try.prog 18 #[.agg #[.int .i64 m.n, .slice (some P) m.n c, .slice (some Q) m.n d], .int .u64 a] w (fun e w' => e = .returned (.tuple #[hdv (m.att a) (m.atl a) (m.atm a), .int .i64 (m.ate a)]) ∧ Up w w') := by
  have hv := hwf.ld a
  have hl := Lib.hid (fun (W : World) (hS : Sits W m P Q c d) => show Calls Try.prog 29 #[.agg #[.int .i64 m.n, .slice (some P) m.n c, .slice (some Q) m.n d], .int .u64 a] W fun e w' => e = .returned (.tuple #[.int .u64 (m.ld a), .int .i64 0]) ∧ Up W w' from by
    have h := rload_any m a P Q c d W hS ha
    rw [show m.lde a = 0 from if_pos ht] at h
    exact h)
  have htk := fun w => rtake_any (m.ld a) hv.1 hv.2 w
  rw [show tkt (m.ld a) = _ from if_pos hk, show tkl (m.ld a) = _ from if_pos hk, show tkm (m.ld a) = _ from if_pos hk, show tke (m.ld a) = 0 from if_pos hk] at htk
  have hwd := Lib.hid (fun w => rhwords_any (tgw (m.ld a)) (lnw (m.ld a)) (mpw (m.ld a)) (mpw_nn _) hk w)
  have hth := fun w => rthere5_any m a (wdn (tgw (m.ld a)) (lnw (m.ld a))) P Q c d w hm.1.2.1 ha (wdn_small (mpw_nn _) hk).1
  rw [hb] at hth
  have hth := Lib.hid hth
  have htk := Lib.hid htk
  have HB := Lib.hid (show (b = true → m.atok a) ∧ m.ate a = unl b 2 from by
    refine ⟨fun q => ⟨ht, hk, of_decide_eq_true (hb.trans q)⟩, ?_⟩
    refine ((if_pos ht).trans (if_pos hk)).trans ?_
    rw [← hb]
    by_cases hi : m.inn a (wdn (tgw (m.ld a)) (lnw (m.ld a)))
    · rw [if_pos hi, decide_eq_true hi]; rfl
    · rw [if_neg hi, decide_eq_false hi]; rfl)
  have HB2 := Lib.hid (show b = false → ¬ m.atok a from fun q r => by rw [decide_eq_true r.2.2] at hb; rw [← hb] at q; cases q)
  have HM := Lib.hid hm
  clear hm ha ht hk hwf hv hb
  generalize wdn (tgw (m.ld a)) (lnw (m.ld a)) = k at hwd hth
  generalize hg1 : tgw (m.ld a) = t at htk hwd
  generalize hg2 : lnw (m.ld a) = l at htk hwd
  generalize hg3 : mpw (m.ld a) = mp at htk hwd
  have HG := Lib.hid (show tgw (m.ld a) = t ∧ lnw (m.ld a) = l ∧ mpw (m.ld a) = mp from ⟨hg1, hg2, hg3⟩)
  clear hg1 hg2 hg3
  go_enter Try.func18, Try.ntmps18
  go_wp2_with (fail)
  refine (hl.out _ (HM.out.up (((Up.refl w).alloc _).alloc _))).mono ?_
  rintro e w1 ⟨rfl, h1⟩
  have M1 : Blk w1 w.heap.size 25 #[.int .i64 m.n, .slice (some P) m.n c, .slice (some Q) m.n d] := ((Blk.new' w rfl _ _).alloc (.cells #[.int .i64 0, .int .i64 0, .int .u64 0] 55)).up h1
  have R1 : Blk w1 (w.heap.size + 1) 55 #[.int .i64 0, .int .i64 0, .int .u64 0] := (Blk.new' (w.alloc (.cells #[.int .i64 m.n, .slice (some P) m.n c, .slice (some Q) m.n d] 25)) (by simp) _ _).up h1
  have U1 : Up w w1 := (((Up.refl w).alloc _).alloc _).trans h1
  clear h1
  have R1c := R1.cell
  have R1f := R1.frozen
  have R1l := R1.lt
  have M1c := M1.cell
  have M1f := M1.frozen
  have M1l := M1.lt
  go_wp2_with (fail)
  refine (htk.out _).mono ?_
  rintro e w2 ⟨rfl, h2⟩
  have M2 := ((M1.up h2).alloc (.cells #[.int .i64 t, .int .i64 l, .int .u64 mp] 55)).drew
  have R2 := ((R1.up h2).alloc (.cells #[.int .i64 t, .int .i64 l, .int .u64 mp] 55)).drew
  have H2 := (Blk.new w2 55 #[.int .i64 t, .int .i64 l, .int .u64 mp]).drew
  have U2 := ((U1.trans h2).alloc (.cells #[.int .i64 t, .int .i64 l, .int .u64 mp] 55)).drew
  clear R1c R1f R1l M1c M1f M1l M1 R1 U1 h2
  go_wp2_with (fail)
  obtain ⟨W0, hW0⟩ : ∃ W0 : World, W0 = (w2.alloc (.cells #[.int .i64 t, .int .i64 l, .int .u64 mp] 55)).drew := ⟨_, rfl⟩
  have U0 : Up W0 (w2.alloc (.cells #[.int .i64 t, .int .i64 l, .int .u64 mp] 55)).drew := by rw [hW0]; exact Up.refl _
  rw [← hW0] at M2 R2 H2 U2
  clear hW0
  cases b
  all_goals
    go_region_held3 (fun w' => (∀ i, w'.cell? ⟨w.heap.size, i, none⟩ = (#[.int .i64 m.n, .slice (some P) m.n c, .slice (some Q) m.n d] : Array Value)[i]?) ∧ (∀ i, w'.cell? ⟨w2.heap.size, i, none⟩ = (#[.int .i64 t, .int .i64 l, .int .u64 mp] : Array Value)[i]?))
      (exact ⟨fun i => (Blk.up M2 (by assumption)).cell i, fun i => (Blk.up H2 (by assumption)).cell i⟩)
      (first
        | (go_at_call 40; ((with_reducible refine (hwd.out _).mono ?_); rintro e wz ⟨rfl, hz⟩; have UZ := Up.trans (a := W0) (by assumption) hz))
        | (go_at_call 39; ((with_reducible refine (hth.out _).mono ?_); rintro e wz ⟨rfl, hz⟩; have UZ := Up.trans (a := W0) (by assumption) hz)))
  · have HN := Lib.hid (at_no (HB2.out (by trivial)))
    have R3 := R2.up UZ
    have H3c := (H2.up UZ).cell
    have U3 := U2.trans UZ
    have R3c := R3.cell
    have R3f := R3.frozen
    have R3l := R3.lt
    go_wp2
    refine bodyPost_ret (v := .tuple #[hdv 0 0 0, .int .i64 2]) (by simp [results, Try.results18, go_sem, R3c, R3l]) rfl ⟨by rw [HN.out.1, HN.out.2.1, HN.out.2.2, HB.out.2]; rfl, U3.set3 (by omega) _ _ _⟩
  · have HN := Lib.hid (at_of (HB.out.1 (by trivial)))
    have R3 := R2.up UZ
    have H3c := (H2.up UZ).cell
    have U3 := U2.trans UZ
    have R3c := R3.cell
    have R3f := R3.frozen
    have R3l := R3.lt
    go_wp2
    refine bodyPost_ret (v := .tuple #[hdv t l mp, .int .i64 0]) (by simp [results, Try.results18, go_sem, R3c, R3l]) rfl ⟨by rw [HN.out.1, HN.out.2.1, HN.out.2.2, HB.out.2, HG.out.1, HG.out.2.1, HG.out.2.2]; rfl, U3.set3 (by omega) _ _ _⟩

theorem rat_any (m : Me) (a : Int) (P Q : Addr) (c d : Nat) (w : World) (hm : Sits w m P Q c d) (ha : U64 a) (hwf : m.wf) :
    Calls Try.prog 18 #[.agg #[.int .i64 m.n, .slice (some P) m.n c, .slice (some Q) m.n d], .int .u64 a] w (fun e w' => e = .returned (.tuple #[hdv (m.att a) (m.atl a) (m.atm a), .int .i64 (m.ate a)]) ∧ Up w w') := by
  by_cases ht : m.there a
  · by_cases hk : tkb (m.ld a)
    · exact rat_yes m a P Q c d w hm ha hwf ht hk _ rfl
    · exact rat_odd m a P Q c d w hm ha hwf ht hk
  · exact rat_far m a P Q c d w hm ha ht

end Go.Proofs.Ytgcpkgogjcgfbaa
