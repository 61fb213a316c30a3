/- Words that are laid into memory (package arena): contract of lay. -/
import Derived.Test.YtgcpkgogjcgfbaaRow
namespace Go.Proofs.Ytgcpkgogjcgfbaa
open Go.ChangeShapes Go.WideShapes Go.ChangeAt Go.RowKit
set_option linter.unusedVariables false
set_option linter.unusedSimpArgs false

/-- Memory is handed back. -/
def Gives (w : World) (m : Me) (e : Ending) (w' : World) : Prop := ∃ P Q c d, e = .returned (.agg #[.int .i64 m.n, .slice (some P) m.n c, .slice (some Q) m.n d]) ∧ Sits w' m P Q c d ∧ Up w w'

/-- Both spaces are new. -/
def Fr (w : World) (P Q : Addr) : Prop := w.heap.size ≤ P.block ∧ w.heap.size ≤ Q.block
theorem Fr.up {a b : World} {P Q : Addr} (h : Fr b P Q) (k : a.heap.size ≤ b.heap.size) : Fr a P Q := ⟨Nat.le_trans k h.1, Nat.le_trans k h.2⟩
def GivesF (w : World) (m : Me) (e : Ending) (w' : World) : Prop := ∃ P Q c d, e = .returned (.agg #[.int .i64 m.n, .slice (some P) m.n c, .slice (some Q) m.n d]) ∧ Sits w' m P Q c d ∧ Up w w' ∧ Fr w P Q
theorem GivesF.weak {w w' : World} {m : Me} {e : Ending} (h : GivesF w m e w') : Gives w m e w' := by
  obtain ⟨P, Q, c, d, h1, h2, h3, _⟩ := h
  exact ⟨P, Q, c, d, h1, h2, h3⟩

set_option maxHeartbeats 2000000 in
theorem lay_0 (n : Nat) (xs ys ws : List Int) (k : Nat) (P Q R : Addr) (c d cw : Nat) (w : World) (h16 : 16 ≤ n) (hn : n ≤ 4096) (hx : xs.length = n) (hy : ys.length = n)
    (hP : Row w P xs) (hQ : Row w Q ys) (hR : Row w R ws) (hk : k < n) (hw : k + ws.length ≤ n) :
    Calls Try.prog 95 #[.agg #[.int .i64 n, .slice (some P) n c, .slice (some Q) n d], .agg #[.int .i64 0, .int .i64 k], .slice (some R) ws.length cw] w (GivesF w ⟨n, splice xs k ws, ys⟩) := by
  have hmk := make_is n hn
  have Hx := Lib.hid hx
  have Hy := Lib.hid hy
  clear hx hy
  go_enter Try.func95, Try.ntmps95
  go_wp2
  refine wp_loop_rounds 3 ?_
  rw [rounds_succ]
  go_wp2_with (with_reducible refine halt_at (o := ⟨some 23, _, _, _, _, _⟩) ?_)
  unfold Halt
  refine wpList_copy_to rfl (.tmp 18) (.tmp 22) 22 22 rfl 44 Try.underlying22 size_u64 _ _ n n n c rfl rfl _ 0 (wds (zers n)) 44 (Blk.new _ _ _) (wds xs) ?c1 ?c2 ?c3 (one_wds _) ?_
  case c1 => rw [len_wds, Hx.out]; exact (Nat.min_self n).symm
  case c2 => intro _; exact ⟨by simp, P, rfl, (hP.up ((((Up.refl _).alloc _).alloc _).alloc _ |>.alloc _)).src⟩
  case c3 => rw [len_wds, len_wds, Hx.out]; simp [zers]
  intro w1 X1 B1
  rw [splice_all _ _ (by rw [Hx.out]; simp [zers])] at X1
  have D1 := (((Blk.new w 25 _).alloc _ |>.alloc _).alloc _).grown B1 (by simp <;> omega)
  have E1 := (((Blk.new _ 116 _).alloc _).alloc _).grown B1 (by simp <;> omega)
  have F1 := ((Blk.new _ 25 _).alloc _).grown B1 (by simp <;> omega)
  have U1 : Up w w1 := ((((Up.refl w).alloc _).alloc _).alloc _ |>.alloc _).grown B1 (by rintro _ ⟨⟩; simp; omega)
  simp at X1 D1 E1 F1
  clear B1
  have D1c := D1.cell
  have D1f := D1.frozen
  have D1l := D1.lt
  go_wp2_with (with_reducible refine halt_at (o := ⟨some 23, _, _, _, _, _⟩) ?_)
  rw [rounds_succ]
  go_wp2_with (with_reducible refine halt_at (o := ⟨some 23, _, _, _, _, _⟩) ?_)
  unfold Halt
  refine wpList_copy_to rfl (.tmp 18) (.tmp 22) 22 22 rfl 44 Try.underlying22 size_u64 _ _ n n n d rfl rfl _ 0 (wds (zers n)) 44 (Blk.new _ _ _) (wds ys) ?d1 ?d2 ?d3 (one_wds _) ?_
  case d1 => rw [len_wds, Hy.out]; exact (Nat.min_self n).symm
  case d2 => intro _; exact ⟨by simp, Q, rfl, (hQ.up ((U1.setCell (Nat.le_refl _) _).alloc _)).src⟩
  case d3 => rw [len_wds, len_wds, Hy.out]; simp [zers]
  intro w2 Y2 B2
  rw [splice_all _ _ (by rw [Hy.out]; simp [zers])] at Y2
  have D2 := ((D1.set_ 1 _).alloc _).grown B2 (by simp <;> omega)
  have X2 := ((X1.far (by simp <;> omega) _).alloc _).grown B2 (by have := X1.lt; simp <;> omega)
  have E2 := ((E1.far (by simp <;> omega) _).alloc _).grown B2 (by have := E1.lt; simp <;> omega)
  have F2 := ((F1.far (by simp <;> omega) _).alloc _).grown B2 (by have := F1.lt; simp <;> omega)
  have U2 : Up w w2 := ((U1.setCell (Nat.le_refl _) _).alloc _).grown B2 (by rintro _ ⟨⟩; have := U1.size; simp; omega)
  simp at Y2 D2 E2 F2
  have hlt := X1.lt
  clear B2 D1 E1 F1 X1 D1c D1f
  have D2c := D2.cell
  have D2f := D2.frozen
  have E2c := E2.cell
  have l1 := D2.lt
  have l2 := E2.lt
  have l3 := F2.lt
  go_wp2_with (fail)
  rw [rounds_succ]
  go_wp2_with (fail)
  have T3 : Blk (w2.setCell ⟨w.heap.size, 2, none⟩ (.slice (some ⟨w1.heap.size, 0, none⟩) n n)) (w.heap.size + 1 + 1 + 1) 44 (wds xs).toArray := X2.far (by simp <;> omega) _
  have R3 := Lib.hid (hR.up (U2.setCell (p := ⟨w.heap.size, 2, none⟩) (Nat.le_refl _) (.slice (some ⟨w1.heap.size, 0, none⟩) n n))).src
  have hkn : ¬ n = k := by omega
  have hkn' : k ≤ n := by omega
  go_region_law (refine step_copy_to rfl (.tmp 36) (.tmp 37) 22 22 rfl 44 Try.underlying22 size_u64 (some ⟨(w.heap.size + 1 + 1 + 1), k, none⟩) (some R) (n - k) (n - k) ws.length cw (by simp [Act.eval, Act.put]) (by simp [Act.eval, Act.put]) (w.heap.size + 1 + 1 + 1) k (wds xs) 44 T3 (wds ws) (by rw [len_wds]; show _ = min _ _; omega) (fun _ => ⟨rfl, R, rfl, R3.out⟩) (by rw [len_wds, len_wds, Hx.out]; omega) (one_wds _) ?_; intro w3 T4 B3)
  all_goals
    have D3 := (D2.set_ 2 (.slice (some ⟨w1.heap.size, 0, none⟩) n n)).drew.grown B3 (by simp <;> omega)
    have F3 := (F2.far (p := ⟨w.heap.size, 2, none⟩) (by simp <;> omega) (.slice (some ⟨w1.heap.size, 0, none⟩) n n)).drew.grown B3 (by simp <;> omega)
    have O3 := (Y2.far (p := ⟨w.heap.size, 2, none⟩) (by simp <;> omega) (.slice (some ⟨w1.heap.size, 0, none⟩) n n)).drew.grown B3 (by have := hlt; simp <;> omega)
    have U3 : Up w w3 := (U2.setCell (Nat.le_refl _) _).drew.grown B3 (by rintro _ ⟨⟩; omega)
    simp at D3
    clear B3 D2 E2 F2 X2 Y2 D2c D2f E2c T3 R3
    rw [splice_wds] at T4
    have D3c := D3.cell
    have F3c := F3.cell
    have F3f := F3.frozen
    go_wp2
    refine bodyPost_ret (v := .agg #[.int .i64 n, .slice (some ⟨w.heap.size + 1 + 1 + 1, 0, none⟩) n n, .slice (some ⟨w1.heap.size, 0, none⟩) n n]) (by simp [results, Try.results95, go_sem, F3c]) rfl ?_
    have T5 := ((T4.far (p := ⟨w.heap.size + 1 + 1, 0, none⟩) (by simp <;> omega) (.int .i64 n)).far (p := ⟨w.heap.size + 1 + 1, 1, none⟩) (by simp <;> omega) (.slice (some ⟨w.heap.size + 1 + 1 + 1, 0, none⟩) n n)).far (p := ⟨w.heap.size + 1 + 1, 2, none⟩) (by simp <;> omega) (.slice (some ⟨w1.heap.size, 0, none⟩) n n)
    have O5 := ((O3.far (p := ⟨w.heap.size + 1 + 1, 0, none⟩) (by simp <;> omega) (.int .i64 n)).far (p := ⟨w.heap.size + 1 + 1, 1, none⟩) (by simp <;> omega) (.slice (some ⟨w.heap.size + 1 + 1 + 1, 0, none⟩) n n)).far (p := ⟨w.heap.size + 1 + 1, 2, none⟩) (by simp <;> omega) (.slice (some ⟨w1.heap.size, 0, none⟩) n n)
    have hL : (splice xs k ws).length = n := by rw [length_splice _ _ _ (by rw [Hx.out]; exact hw), Hx.out]
    refine ⟨⟨w.heap.size + 1 + 1 + 1, 0, none⟩, ⟨w1.heap.size, 0, none⟩, n, n, rfl, ⟨⟨h16, hn, hL, Hy.out⟩, Nat.le_refl _, by unfold maxLen; show n ≤ _; omega, Nat.le_refl _, by unfold maxLen; show n ≤ _; omega, T5.row, O5.row⟩, ?_⟩
    exact ⟨((U3.setCell (by simp <;> omega) _).setCell (by simp <;> omega) _).setCell (by simp <;> omega) _, by simp <;> omega, Nat.le_of_lt (Nat.lt_of_le_of_lt (by omega) hlt)⟩

set_option maxHeartbeats 2000000 in
theorem lay_1 (n : Nat) (xs ys ws : List Int) (k : Nat) (P Q R : Addr) (c d cw : Nat) (w : World) (h16 : 16 ≤ n) (hn : n ≤ 4096) (hx : xs.length = n) (hy : ys.length = n)
    (hP : Row w P xs) (hQ : Row w Q ys) (hR : Row w R ws) (hk : k < n) (hw : k + ws.length ≤ n) :
    Calls Try.prog 95 #[.agg #[.int .i64 n, .slice (some P) n c, .slice (some Q) n d], .agg #[.int .i64 1, .int .i64 k], .slice (some R) ws.length cw] w (GivesF w ⟨n, xs, splice ys k ws⟩) := by
  have hmk := make_is n hn
  have Hx := Lib.hid hx
  have Hy := Lib.hid hy
  clear hx hy
  go_enter Try.func95, Try.ntmps95
  go_wp2
  refine wp_loop_rounds 3 ?_
  rw [rounds_succ]
  go_wp2_with (with_reducible refine halt_at (o := ⟨some 23, _, _, _, _, _⟩) ?_)
  unfold Halt
  refine wpList_copy_to rfl (.tmp 18) (.tmp 22) 22 22 rfl 44 Try.underlying22 size_u64 _ _ n n n c rfl rfl _ 0 (wds (zers n)) 44 (Blk.new _ _ _) (wds xs) ?c1 ?c2 ?c3 (one_wds _) ?_
  case c1 => rw [len_wds, Hx.out]; exact (Nat.min_self n).symm
  case c2 => intro _; exact ⟨by simp, P, rfl, (hP.up ((((Up.refl _).alloc _).alloc _).alloc _ |>.alloc _)).src⟩
  case c3 => rw [len_wds, len_wds, Hx.out]; simp [zers]
  intro w1 X1 B1
  rw [splice_all _ _ (by rw [Hx.out]; simp [zers])] at X1
  have D1 := (((Blk.new w 25 _).alloc _ |>.alloc _).alloc _).grown B1 (by simp <;> omega)
  have E1 := (((Blk.new _ 116 _).alloc _).alloc _).grown B1 (by simp <;> omega)
  have F1 := ((Blk.new _ 25 _).alloc _).grown B1 (by simp <;> omega)
  have U1 : Up w w1 := ((((Up.refl w).alloc _).alloc _).alloc _ |>.alloc _).grown B1 (by rintro _ ⟨⟩; simp; omega)
  simp at X1 D1 E1 F1
  clear B1
  have D1c := D1.cell
  have D1f := D1.frozen
  have D1l := D1.lt
  go_wp2_with (with_reducible refine halt_at (o := ⟨some 23, _, _, _, _, _⟩) ?_)
  rw [rounds_succ]
  go_wp2_with (with_reducible refine halt_at (o := ⟨some 23, _, _, _, _, _⟩) ?_)
  unfold Halt
  refine wpList_copy_to rfl (.tmp 18) (.tmp 22) 22 22 rfl 44 Try.underlying22 size_u64 _ _ n n n d rfl rfl _ 0 (wds (zers n)) 44 (Blk.new _ _ _) (wds ys) ?d1 ?d2 ?d3 (one_wds _) ?_
  case d1 => rw [len_wds, Hy.out]; exact (Nat.min_self n).symm
  case d2 => intro _; exact ⟨by simp, Q, rfl, (hQ.up ((U1.setCell (Nat.le_refl _) _).alloc _)).src⟩
  case d3 => rw [len_wds, len_wds, Hy.out]; simp [zers]
  intro w2 Y2 B2
  rw [splice_all _ _ (by rw [Hy.out]; simp [zers])] at Y2
  have D2 := ((D1.set_ 1 _).alloc _).grown B2 (by simp <;> omega)
  have X2 := ((X1.far (by simp <;> omega) _).alloc _).grown B2 (by have := X1.lt; simp <;> omega)
  have E2 := ((E1.far (by simp <;> omega) _).alloc _).grown B2 (by have := E1.lt; simp <;> omega)
  have F2 := ((F1.far (by simp <;> omega) _).alloc _).grown B2 (by have := F1.lt; simp <;> omega)
  have U2 : Up w w2 := ((U1.setCell (Nat.le_refl _) _).alloc _).grown B2 (by rintro _ ⟨⟩; have := U1.size; simp; omega)
  simp at Y2 D2 E2 F2
  have hlt := X1.lt
  clear B2 D1 E1 F1 X1 D1c D1f
  have D2c := D2.cell
  have D2f := D2.frozen
  have E2c := E2.cell
  have l1 := D2.lt
  have l2 := E2.lt
  have l3 := F2.lt
  go_wp2_with (fail)
  rw [rounds_succ]
  go_wp2_with (fail)
  have T3 : Blk (w2.setCell ⟨w.heap.size, 2, none⟩ (.slice (some ⟨w1.heap.size, 0, none⟩) n n)) w1.heap.size 44 (wds ys).toArray := Y2.far (by simp <;> omega) _
  have R3 := Lib.hid (hR.up (U2.setCell (p := ⟨w.heap.size, 2, none⟩) (Nat.le_refl _) (.slice (some ⟨w1.heap.size, 0, none⟩) n n))).src
  have hkn : ¬ n = k := by omega
  have hkn' : k ≤ n := by omega
  go_region_law (refine step_copy_to rfl (.tmp 36) (.tmp 37) 22 22 rfl 44 Try.underlying22 size_u64 (some ⟨w1.heap.size, k, none⟩) (some R) (n - k) (n - k) ws.length cw (by simp [Act.eval, Act.put]) (by simp [Act.eval, Act.put]) w1.heap.size k (wds ys) 44 T3 (wds ws) (by rw [len_wds]; show _ = min _ _; omega) (fun _ => ⟨rfl, R, rfl, R3.out⟩) (by rw [len_wds, len_wds, Hy.out]; omega) (one_wds _) ?_; intro w3 T4 B3)
  all_goals
    have D3 := (D2.set_ 2 (.slice (some ⟨w1.heap.size, 0, none⟩) n n)).drew.grown B3 (by simp <;> omega)
    have F3 := (F2.far (p := ⟨w.heap.size, 2, none⟩) (by simp <;> omega) (.slice (some ⟨w1.heap.size, 0, none⟩) n n)).drew.grown B3 (by simp <;> omega)
    have O3 := (X2.far (p := ⟨w.heap.size, 2, none⟩) (by simp <;> omega) (.slice (some ⟨w1.heap.size, 0, none⟩) n n)).drew.grown B3 (by have := hlt; simp <;> omega)
    have U3 : Up w w3 := (U2.setCell (Nat.le_refl _) _).drew.grown B3 (by rintro _ ⟨⟩; omega)
    simp at D3
    clear B3 D2 E2 F2 X2 Y2 D2c D2f E2c T3 R3
    rw [splice_wds] at T4
    have D3c := D3.cell
    have F3c := F3.cell
    have F3f := F3.frozen
    go_wp2
    refine bodyPost_ret (v := .agg #[.int .i64 n, .slice (some ⟨w.heap.size + 1 + 1 + 1, 0, none⟩) n n, .slice (some ⟨w1.heap.size, 0, none⟩) n n]) (by simp [results, Try.results95, go_sem, F3c]) rfl ?_
    have T5 := ((T4.far (p := ⟨w.heap.size + 1 + 1, 0, none⟩) (by simp <;> omega) (.int .i64 n)).far (p := ⟨w.heap.size + 1 + 1, 1, none⟩) (by simp <;> omega) (.slice (some ⟨w.heap.size + 1 + 1 + 1, 0, none⟩) n n)).far (p := ⟨w.heap.size + 1 + 1, 2, none⟩) (by simp <;> omega) (.slice (some ⟨w1.heap.size, 0, none⟩) n n)
    have O5 := ((O3.far (p := ⟨w.heap.size + 1 + 1, 0, none⟩) (by simp <;> omega) (.int .i64 n)).far (p := ⟨w.heap.size + 1 + 1, 1, none⟩) (by simp <;> omega) (.slice (some ⟨w.heap.size + 1 + 1 + 1, 0, none⟩) n n)).far (p := ⟨w.heap.size + 1 + 1, 2, none⟩) (by simp <;> omega) (.slice (some ⟨w1.heap.size, 0, none⟩) n n)
    have hL : (splice ys k ws).length = n := by rw [length_splice _ _ _ (by rw [Hy.out]; exact hw), Hy.out]
    refine ⟨⟨w.heap.size + 1 + 1 + 1, 0, none⟩, ⟨w1.heap.size, 0, none⟩, n, n, rfl, ⟨⟨h16, hn, Hx.out, hL⟩, Nat.le_refl _, by unfold maxLen; show n ≤ _; omega, Nat.le_refl _, by unfold maxLen; show n ≤ _; omega, O5.row, T5.row⟩, ?_⟩
    exact ⟨((U3.setCell (by simp <;> omega) _).setCell (by simp <;> omega) _).setCell (by simp <;> omega) _, by simp <;> omega, Nat.le_of_lt (Nat.lt_of_le_of_lt (by omega) hlt)⟩

/-- Memory with these words from a place on. -/
theorem lay_any (m : Me) (s : Int) (ws : List Int) (k : Nat) (P Q R : Addr) (c d cw : Nat) (w : World) (hm : Sits w m P Q c d) (hs : s = 0 ∨ s = 1) (hR : Row w R ws) (hk : k < m.n) (hw : k + ws.length ≤ m.n) :
    Calls Try.prog 95 #[.agg #[.int .i64 m.n, .slice (some P) m.n c, .slice (some Q) m.n d], .agg #[.int .i64 s, .int .i64 k], .slice (some R) ws.length cw] w (GivesF w (m.put s (splice (m.sp s) k ws))) := by
  obtain ⟨n, xs, ys⟩ := m
  obtain ⟨⟨h16, hn, hx, hy⟩, _, _, _, _, hP, hQ⟩ := hm
  rcases hs with rfl | rfl
  · exact lay_0 n xs ys ws k P Q R c d cw w h16 hn hx hy hP hQ hR hk hw
  · exact lay_1 n xs ys ws k P Q R c d cw w h16 hn hx hy hP hQ hR hk hw
end Go.Proofs.Ytgcpkgogjcgfbaa
