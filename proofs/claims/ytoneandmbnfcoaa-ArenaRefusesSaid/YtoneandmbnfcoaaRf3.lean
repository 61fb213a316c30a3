/- The document's answers for memory (dovecoteref03): contracts of Swap and Clear. -/
import Derived.Test.YtoneandmbnfcoaaRf2
namespace Go.Proofs.Ytoneandmbnfcoaa
open Go.ChangeShapes Go.WideShapes Go.ChangeAt Go.RowKit
set_option linter.unusedVariables false
set_option linter.unusedSimpArgs false

theorem new_row' (W : World) (xs : List Int) (t : TypeId) (g : Nat) (hg : g = W.heap.size) : Row (W.alloc (.cells (wds xs).toArray t)) ⟨g, 0, none⟩ xs := by
  subst hg
  exact row_of_blk (heap_alloc_new W _)

set_option maxHeartbeats 2000000 in
theorem rswap_yes (m M : Me) (a old new : Int) (P Q : Addr) (c d : Nat) (w : World) (hm : Sits w m P Q c d)
    (hld : ∀ w, Sits w m P Q c d → Calls Try.prog 14 #[.agg #[.int .i64 m.n, .slice (some P) m.n c, .slice (some Q) m.n d], .int .u64 a] w fun e w' => e = .returned (.tuple #[.int .u64 old, .int .i64 0]) ∧ Up w w')
    (hst : ∀ w, Sits w m P Q c d → Calls Try.prog 16 #[.agg #[.int .i64 m.n, .slice (some P) m.n c, .slice (some Q) m.n d], .int .u64 a, .int .u64 new] w (Gives1 w M (.int .i64 0))) :
    Calls Try.prog 18 #[.agg #[.int .i64 m.n, .slice (some P) m.n c, .slice (some Q) m.n d], .int .u64 a, .int .u64 old, .int .u64 new] w (Gives2 w M (.bool true) (.int .i64 0)) := by
  have HL := Lib.hid hld
  have HS := Lib.hid hst
  have HM := Lib.hid hm
  clear hld hst hm
  go_enter Try.func18, Try.ntmps18
  go_wp2_with (fail)
  refine (HL.out _ (HM.out.up (((Up.refl w).alloc _).alloc _))).mono ?_
  rintro e w1 ⟨rfl, h1⟩
  have D1 := ((Blk.new w 25 _).alloc _).up h1
  have F1 := (Blk.new _ 25 _).up h1
  simp at F1
  have U1 : Up w w1 := (((Up.refl w).alloc _).alloc _).trans h1
  clear h1
  have D1c := D1.cell
  have D1l := D1.lt
  have F1c := F1.cell
  have F1f := F1.frozen
  go_wp2_with (fail)
  refine (HS.out _ (HM.out.up U1)).mono ?_
  rintro e w2 ⟨P', Q', c', d', rfl, hS, h2⟩
  have F2 := F1.up h2
  have U2 : Up w w2 := U1.trans h2
  clear D1 F1 D1c F1c F1f h2
  have F2c := F2.cell
  have F2f := F2.frozen
  have F2l := F2.lt
  go_wp2
  refine bodyPost_ret (v := .tuple #[.agg #[.int .i64 M.n, .slice (some P') M.n c', .slice (some Q') M.n d'], .bool true, .int .i64 0]) (by simp [results, Try.results18, go_sem, F2c, F2l]) rfl ?_
  exact ⟨P', Q', c', d', rfl, (hS.far3 F2 _ _ _).up ((Up.refl _).alloc _), (U2.set3 (by omega) _ _ _).alloc _⟩

set_option maxHeartbeats 2000000 in
theorem rswap_no (m : Me) (a old new x : Int) (P Q : Addr) (c d : Nat) (w : World) (hm : Sits w m P Q c d) (hx : x ≠ old)
    (hld : ∀ w, Sits w m P Q c d → Calls Try.prog 14 #[.agg #[.int .i64 m.n, .slice (some P) m.n c, .slice (some Q) m.n d], .int .u64 a] w fun e w' => e = .returned (.tuple #[.int .u64 x, .int .i64 0]) ∧ Up w w') :
    Calls Try.prog 18 #[.agg #[.int .i64 m.n, .slice (some P) m.n c, .slice (some Q) m.n d], .int .u64 a, .int .u64 old, .int .u64 new] w (Gives2 w m (.bool false) (.int .i64 0)) := by
  have HL := Lib.hid hld
  have HM := Lib.hid hm
  have hb : (x != old) = true := bne_iff_ne.mpr hx
  clear hld hm hx
  go_enter Try.func18, Try.ntmps18
  go_wp2_with (fail)
  refine (HL.out _ (HM.out.up (((Up.refl w).alloc _).alloc _))).mono ?_
  rintro e w1 ⟨rfl, h1⟩
  have D1 := ((Blk.new w 25 _).alloc _).up h1
  have F1 := (Blk.new _ 25 _).up h1
  simp at F1
  have U1 : Up w w1 := (((Up.refl w).alloc _).alloc _).trans h1
  clear h1
  have D1c := D1.cell
  have D1l := D1.lt
  have F1c := F1.cell
  have F1f := F1.frozen
  go_wp2
  refine bodyPost_ret (v := .tuple #[.agg #[.int .i64 m.n, .slice (some P) m.n c, .slice (some Q) m.n d], .bool false, .int .i64 0]) (by simp [results, Try.results18, go_sem, F1c]) rfl ?_
  exact ⟨P, Q, c, d, rfl, (HM.out.up U1).far3 F1 _ _ _, U1.set3 (by omega) _ _ _⟩

set_option maxHeartbeats 2000000 in
theorem rswap_far (m : Me) (a old new : Int) (P Q : Addr) (c d : Nat) (w : World) (hm : Sits w m P Q c d)
    (hld : ∀ w, Sits w m P Q c d → Calls Try.prog 14 #[.agg #[.int .i64 m.n, .slice (some P) m.n c, .slice (some Q) m.n d], .int .u64 a] w fun e w' => e = .returned (.tuple #[.int .u64 0, .int .i64 2]) ∧ Up w w') :
    Calls Try.prog 18 #[.agg #[.int .i64 m.n, .slice (some P) m.n c, .slice (some Q) m.n d], .int .u64 a, .int .u64 old, .int .u64 new] w (Gives2 w m (.bool false) (.int .i64 2)) := by
  have HL := Lib.hid hld
  have HM := Lib.hid hm
  clear hld hm
  go_enter Try.func18, Try.ntmps18
  go_wp2_with (fail)
  refine (HL.out _ (HM.out.up (((Up.refl w).alloc _).alloc _))).mono ?_
  rintro e w1 ⟨rfl, h1⟩
  have D1 := ((Blk.new w 25 _).alloc _).up h1
  have F1 := (Blk.new _ 25 _).up h1
  simp at F1
  have U1 : Up w w1 := (((Up.refl w).alloc _).alloc _).trans h1
  clear h1
  have D1c := D1.cell
  have D1l := D1.lt
  have F1c := F1.cell
  have F1f := F1.frozen
  go_wp2
  refine bodyPost_ret (v := .tuple #[.agg #[.int .i64 m.n, .slice (some P) m.n c, .slice (some Q) m.n d], .bool false, .int .i64 2]) (by simp [results, Try.results18, go_sem, F1c]) rfl ?_
  exact ⟨P, Q, c, d, rfl, (HM.out.up U1).far3 F1 _ _ _, U1.set3 (by omega) _ _ _⟩

theorem rswap_any (m : Me) (a old new : Int) (P Q : Addr) (c d : Nat) (w : World) (hm : Sits w m P Q c d) (ha : U64 a) :
    Calls Try.prog 18 #[.agg #[.int .i64 m.n, .slice (some P) m.n c, .slice (some Q) m.n d], .int .u64 a, .int .u64 old, .int .u64 new] w (Gives2 w (m.sw a old new) (.bool (m.swb a old)) (.int .i64 (m.lde a))) := by
  by_cases h : m.there a
  · have e0 : m.lde a = 0 := if_pos h
    by_cases k : m.ld a = old
    · rw [show m.sw a old new = m.st a new from if_pos ⟨h, k⟩, show m.swb a old = true from decide_eq_true ⟨h, k⟩, e0]
      refine rswap_yes m _ a old new P Q c d w hm (fun w hm => ?_) (fun w hm => ?_)
      · have := rload_any m a P Q c d w hm ha
        rw [k, e0] at this
        exact this
      · have := rstore_any m a new P Q c d w hm ha
        rw [e0] at this
        exact this
    · rw [show m.sw a old new = m from if_neg (fun q => k q.2), show m.swb a old = false from decide_eq_false (fun q => k q.2), e0]
      refine rswap_no m a old new (m.ld a) P Q c d w hm k (fun w hm => ?_)
      have := rload_any m a P Q c d w hm ha
      rw [e0] at this
      exact this
  · rw [show m.sw a old new = m from if_neg (fun q => h q.1), show m.swb a old = false from decide_eq_false (fun q => h q.1), show m.lde a = 2 from if_neg h]
    refine rswap_far m a old new P Q c d w hm (fun w hm => ?_)
    have := rload_any m a P Q c d w hm ha
    rw [show m.ld a = 0 from if_neg h, show m.lde a = 2 from if_neg h] at this
    exact this

set_option maxHeartbeats 2000000 in
theorem rclear_at0 (n : Nat) (xs ys : List Int) (P Q : Addr) (c d : Nat) (w : World) (hm : Sits w ⟨n, xs, ys⟩ P Q c d) :
    Calls Try.prog 23 #[.agg #[.int .i64 n, .slice (some P) n c, .slice (some Q) n d], .int .i64 0] w (Gives w (Me.put ⟨n, xs, ys⟩ 0 (zers n))) := by
  have hmk := make_is n hm.1.2.1
  have HM := Lib.hid hm
  clear hm
  go_enter Try.func23, Try.ntmps23
  go_wp2
  refine bodyPost_ret (v := .agg #[.int .i64 n, (.slice (some ⟨w.heap.size + 1 + 1 + 1, 0, none⟩) n n), (.slice (some Q) n d)]) (by simp [results, Try.results23, go_sem]) rfl ?_
  have Uf := (((Up.refl w).alloc (.cells #[.int .i64 n, .slice (some P) n c, .slice (some Q) n d] 25)).alloc (.cells #[.int .i64 n, (.slice (some ⟨w.heap.size + 1 + 1 + 1, 0, none⟩) n n), (.slice (some Q) n d)] 25)).alloc (.cells #[.int .i64 n, (.slice (some ⟨w.heap.size + 1 + 1 + 1, 0, none⟩) n n), (.slice (some Q) n d)] 25) |>.alloc (.cells (wds (zers n)).toArray 26)
  have Rf := new_row' (((w.alloc (.cells #[.int .i64 n, .slice (some P) n c, .slice (some Q) n d] 25)).alloc (.cells #[.int .i64 n, (.slice (some ⟨w.heap.size + 1 + 1 + 1, 0, none⟩) n n), (.slice (some Q) n d)] 25)).alloc (.cells #[.int .i64 n, (.slice (some ⟨w.heap.size + 1 + 1 + 1, 0, none⟩) n n), (.slice (some Q) n d)] 25)) (zers n) 26 (w.heap.size + 1 + 1 + 1) (by simp)
  obtain ⟨⟨q8, q9, q0, q1⟩, q2, q3, q4, q5, q6, q7⟩ := HM.out
  simp only at q8 q9 q0 q1
  have hm : n ≤ maxLen := by unfold maxLen; omega
  exact ⟨⟨w.heap.size + 1 + 1 + 1, 0, none⟩, Q, n, d, rfl, ⟨⟨q8, q9, len_zers n, q1⟩, Nat.le_refl _, hm, q4, q5, Rf, q7.up Uf⟩, Uf⟩

set_option maxHeartbeats 2000000 in
theorem rclear_at1 (n : Nat) (xs ys : List Int) (P Q : Addr) (c d : Nat) (w : World) (hm : Sits w ⟨n, xs, ys⟩ P Q c d) :
    Calls Try.prog 23 #[.agg #[.int .i64 n, .slice (some P) n c, .slice (some Q) n d], .int .i64 1] w (Gives w (Me.put ⟨n, xs, ys⟩ 1 (zers n))) := by
  have hmk := make_is n hm.1.2.1
  have HM := Lib.hid hm
  clear hm
  go_enter Try.func23, Try.ntmps23
  go_wp2
  refine bodyPost_ret (v := .agg #[.int .i64 n, (.slice (some P) n c), (.slice (some ⟨w.heap.size + 1 + 1 + 1, 0, none⟩) n n)]) (by simp [results, Try.results23, go_sem]) rfl ?_
  have Uf := (((Up.refl w).alloc (.cells #[.int .i64 n, .slice (some P) n c, .slice (some Q) n d] 25)).alloc (.cells #[.int .i64 n, (.slice (some P) n c), (.slice (some ⟨w.heap.size + 1 + 1 + 1, 0, none⟩) n n)] 25)).alloc (.cells #[.int .i64 n, (.slice (some P) n c), (.slice (some ⟨w.heap.size + 1 + 1 + 1, 0, none⟩) n n)] 25) |>.alloc (.cells (wds (zers n)).toArray 26)
  have Rf := new_row' (((w.alloc (.cells #[.int .i64 n, .slice (some P) n c, .slice (some Q) n d] 25)).alloc (.cells #[.int .i64 n, (.slice (some P) n c), (.slice (some ⟨w.heap.size + 1 + 1 + 1, 0, none⟩) n n)] 25)).alloc (.cells #[.int .i64 n, (.slice (some P) n c), (.slice (some ⟨w.heap.size + 1 + 1 + 1, 0, none⟩) n n)] 25)) (zers n) 26 (w.heap.size + 1 + 1 + 1) (by simp)
  obtain ⟨⟨q8, q9, q0, q1⟩, q2, q3, q4, q5, q6, q7⟩ := HM.out
  simp only at q8 q9 q0 q1
  have hm : n ≤ maxLen := by unfold maxLen; omega
  exact ⟨P, ⟨w.heap.size + 1 + 1 + 1, 0, none⟩, c, n, rfl, ⟨⟨q8, q9, q0, len_zers n⟩, q2, q3, Nat.le_refl _, hm, q6.up Uf, Rf⟩, Uf⟩

set_option maxHeartbeats 2000000 in
theorem rclear_no (m : Me) (s : Int) (P Q : Addr) (c d : Nat) (w : World) (hm : Sits w m P Q c d) (h0 : s ≠ 0) (h1 : s ≠ 1) :
    Calls Try.prog 23 #[.agg #[.int .i64 m.n, .slice (some P) m.n c, .slice (some Q) m.n d], .int .i64 s] w (Gives w m) := by
  have HM := Lib.hid hm
  have b0 : (s == 0) = false := beq_eq_false_iff_ne.mpr h0
  have b1 : (s == 1) = false := beq_eq_false_iff_ne.mpr h1
  clear hm h0 h1
  go_enter Try.func23, Try.ntmps23
  go_wp2
  refine bodyPost_ret (v := .agg #[.int .i64 m.n, .slice (some P) m.n c, .slice (some Q) m.n d]) (by simp [results, Try.results23, go_sem]) rfl ?_
  have U := (((Up.refl w).alloc (.cells #[.int .i64 m.n, .slice (some P) m.n c, .slice (some Q) m.n d] 25)).alloc (.cells #[.int .i64 m.n, .slice (some P) m.n c, .slice (some Q) m.n d] 25)).alloc (.cells #[.int .i64 m.n, .slice (some P) m.n c, .slice (some Q) m.n d] 25)
  exact ⟨P, Q, c, d, rfl, HM.out.up U, U⟩

theorem rclear_any (m : Me) (s : Int) (P Q : Addr) (c d : Nat) (w : World) (hm : Sits w m P Q c d) :
    Calls Try.prog 23 #[.agg #[.int .i64 m.n, .slice (some P) m.n c, .slice (some Q) m.n d], .int .i64 s] w (Gives w (m.clr s)) := by
  by_cases h : s = 0 ∨ s = 1
  · rw [show m.clr s = _ from if_pos h]
    rcases h with rfl | rfl
    · exact rclear_at0 m.n m.xs m.ys P Q c d w hm
    · exact rclear_at1 m.n m.xs m.ys P Q c d w hm
  · rw [show m.clr s = m from if_neg h]
    exact rclear_no m s P Q c d w hm (fun q => h (.inl q)) (fun q => h (.inr q))

end Go.Proofs.Ytoneandmbnfcoaa
