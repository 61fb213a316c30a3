/- Package buf: a room whose piece is filled (Retire), and one with a new piece (renewed): contracts. -/
import Derived.Test.YtjolikgficknnaaBf1
import Derived.Deep.RegionHeld3
import Derived.Deep.RegionWith
namespace Go.Proofs.Ytjolikgficknnaa
open Go.ChangeShapes Go.WideShapes Go.ChangeAt Go.RowKit
set_option linter.unusedVariables false
set_option linter.unusedSimpArgs false

set_option maxRecDepth 100000 in
set_option maxHeartbeats 2000000 in
/-- Something is left of the piece. -/
theorem retire_fill (m : Me) (P Q : Addr) (c d : Nat) (s a l x y : Int) (w : World) (hm : Sits w m P Q c d) (hs : s = 0 ∨ s = 1) (h0 : 0 ≤ x) (h1 : x < y) (h2 : y ≤ 4096) :
    Calls Try.prog 7 #[rov m.n (.slice (some P) m.n c) (.slice (some Q) m.n d) s a l x y] w (GivesR w (m.fillm (adr s x) (y - x)) s a l 0 0) := by
  have hg := Lib.hid (fun w => gap_any m.n s a l x y (.slice (some P) m.n c) (.slice (some Q) m.n d) h0 (by omega) (by omega) h2 w)
  have ha := Lib.hid (fun w => addr_ok s x ⟨hs, h0, by omega⟩ w)
  have hA : U64 (adr s x) := by unfold U64 adr; omega
  have hf := fun (W : World) (h : Up w W) => fill_any m (adr s x) (y - x) P Q c d W (hm.up h) hA
  have hn : (m.fillm (adr s x) (y - x)).n = m.n := by
    unfold Me.fillm
    split
    · exact put_n m _ _ _ _
    · rfl
  have hne : (y - x != 0) = true := bne_iff_ne.mpr (by omega)
  generalize m.fillm (adr s x) (y - x) = K at hf hn ⊢
  generalize m.fille (adr s x) (y - x) = z at hf
  generalize adr s x = u at ha hf
  have hf := Lib.hid hf
  have hn := Lib.hid hn
  clear hm hA hs h0 h1 h2
  generalize y - x = q at hg hf hne
  go_enter Try.func7, Try.ntmps7
  go_wp2_with (fail)
  refine (hg.out _).mono ?_
  rintro e w1 ⟨rfl, k1⟩
  have X := ((Blk.new w 31 (roc m.n (.slice (some P) m.n c) (.slice (some Q) m.n d) s a l x y)).alloc (.cells (roc 0 (.slice none 0 0) (.slice none 0 0) 0 0 0 0 0) 31)).up k1
  have R := (Blk.new' (w.alloc (.cells (roc m.n (.slice (some P) m.n c) (.slice (some Q) m.n d) s a l x y) 31)) (g := w.heap.size + 1) (by simp) 31 (roc 0 (.slice none 0 0) (.slice none 0 0) 0 0 0 0 0)).up k1
  have U := (((Up.refl w).alloc (.cells (roc m.n (.slice (some P) m.n c) (.slice (some Q) m.n d) s a l x y) 31)).alloc (.cells (roc 0 (.slice none 0 0) (.slice none 0 0) 0 0 0 0 0) 31)).trans k1
  clear k1
  have Xc := X.cell
  have Xf := X.frozen
  have Xl := X.lt
  go_wp2_with (fail)
  have X0 := X.drew
  have R0 := R.drew
  have U0 := U.drew
  have V0 := Up.refl w1.drew
  clear Xc Xf Xl U X R
  have X0c := X0.cell
  have X0f := X0.frozen
  have X0l := X0.lt
  go_region_with (first
    | (go_at_call 15; refine (ha.out _).mono ?_; rintro e wz ⟨rfl, rfl⟩)
    | (go_at_call 14; refine (hf.out _ U0).mono ?_; rintro e wz ⟨P', Q', c', d', rfl, sz, hz⟩; have UZ := U0.trans hz; have XZ := X0.up hz; have RZ := R0.up hz; have XZc := XZ.cell; have XZf := XZ.frozen; have XZl := XZ.lt))
  all_goals
    have RZc := RZ.cell
    have RZf := RZ.frozen
    have RZl := RZ.lt
    go_wp2
    refine bodyPost_ret (ret_room rfl _ _ _ _ _ _ _ _ _ _ _ rfl ((((((RZ.far (by simp) _).far (by simp) _).far (by simp) _).far (by simp) _).far (by simp) _).set8 _ _ _ _ _ _ _ _)) rfl ?_
    refine ⟨P', Q', c', d', by rw [hn.out], sz.kp (S := [w.heap.size, w.heap.size + 1]) ?_ (Tiny.two XZ RZ (by simp) (by simp)), UZ.kp (S := [w.heap.size, w.heap.size + 1]) ?_ (by simp)⟩
    all_goals
      (repeat (first | with_reducible refine Kp.set_ ?_ (by simp) _ | exact Kp.refl _ _))

set_option maxRecDepth 100000 in
set_option maxHeartbeats 1000000 in
/-- A new piece: so many words, or all that are left. -/
theorem renewed_any (n s a l x y k : Int) (A0 A1 : Option Addr) (n0 n1 c0 c1 : Nat) (h : rgt s a l) (w : World) :
    Calls Try.prog 24 #[rov n (.slice A0 n0 c0) (.slice A1 n1 c1) s a l x y, .int .i64 k] w
      fun e w' => e = .returned (rov n (.slice A0 n0 c0) (.slice A1 n1 c1) s (msa s a l k) l a (a + msk s a l k)) ∧ Up w w' := by
  have hm := Lib.hid (most_any s a l k)
  have b0 : 0 ≤ msk s a l k ∧ msk s a l k ≤ 4096 := by
    obtain ⟨_, h1, h2, h3⟩ := h
    unfold msk
    split
    · rename_i q
      have := q.2
      omega
    · split <;> omega
  obtain ⟨_, h1, h2, h3⟩ := h
  generalize msk s a l k = z at hm b0 ⊢
  generalize msa s a l k = a' at hm ⊢
  generalize msw s a l k = u at hm
  have b1 := b0.1
  have b2 := b0.2
  have b3 : a ≤ 4096 := by omega
  clear b0 h2 h3
  go_enter Try.func24, Try.ntmps24
  go_wp2_with (fail)
  refine (hm.out _).mono ?_
  rintro e w1 ⟨rfl, k1⟩
  have X := ((Blk.new w 31 (roc n (.slice A0 n0 c0) (.slice A1 n1 c1) s a l x y)).alloc (.cells (roc 0 (.slice none 0 0) (.slice none 0 0) 0 0 0 0 0) 31)).up k1
  have R := (Blk.new' (w.alloc (.cells (roc n (.slice A0 n0 c0) (.slice A1 n1 c1) s a l x y) 31)) (g := w.heap.size + 1) (by simp) 31 (roc 0 (.slice none 0 0) (.slice none 0 0) 0 0 0 0 0)).up k1
  have U := (((Up.refl w).alloc (.cells (roc n (.slice A0 n0 c0) (.slice A1 n1 c1) s a l x y) 31)).alloc (.cells (roc 0 (.slice none 0 0) (.slice none 0 0) 0 0 0 0 0) 31)).trans k1
  clear k1
  have Xc := X.cell
  have Xf := X.frozen
  have Xl := X.lt
  have Rc := R.cell
  have Rf := R.frozen
  have Rl := R.lt
  go_wp2
  refine bodyPost_ret (ret_room rfl _ _ _ _ _ _ _ _ _ _ _ rfl (((((((R.far (by simp) _).far (by simp) _).far (by simp) _).far (by simp) _).far (by simp) _).set8 _ _ _ _ _ _ _ _).alloc _)) rfl ?_
  exact ⟨rfl, ((((((U.setCell (by simp) _).setCell (by simp) _).setCell (by simp) _).setCell (by simp) _).setCell (by simp) _).set8 (by omega) _ _ _ _ _ _ _ _).alloc _⟩
end Go.Proofs.Ytjolikgficknnaa
