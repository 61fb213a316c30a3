/- What is moved and cleared in memory (package arena): contracts of Move and Clear. -/
import Derived.Test.YtoneandmbnfcoaaAr4
namespace Go.Proofs.Ytoneandmbnfcoaa
open Go.ChangeShapes Go.WideShapes Go.ChangeAt Go.RowKit
set_option linter.unusedVariables false
set_option linter.unusedSimpArgs false

theorem add_of_add (a : Addr) (i j : Nat) : (a.add i).add j = a.add (i + j) := by
  unfold Addr.add
  by_cases hi : i = 0 <;> by_cases hj : j = 0 <;> simp [hi, hj, Nat.add_assoc]
theorem Row.sub {w : World} {p : Addr} {xs : List Int} (h : Row w p xs) (i n : Nat) : Row w (p.add i) ((xs.drop i).take n) := by
  refine ⟨by rw [block_of_add]; exact h.1, fun j x hx => ?_⟩
  rw [add_of_add]
  rw [List.getElem?_take] at hx
  split at hx
  · rw [List.getElem?_drop] at hx
    exact h.2 _ x hx
  · cases hx
theorem new_row (W : World) (xs : List Int) (t : TypeId) (g : Nat) (hg : g = W.heap.size) : Row (W.alloc (.cells (wds xs).toArray t)).drew ⟨g, 0, none⟩ xs := by
  subst hg
  exact row_of_blk (heap_alloc_new W _)
theorem len_zers (n : Nat) : (zers n).length = n := by simp [zers]

theorem lay_len (m : Me) (s : Int) (ws : List Int) (l k : Nat) (kk : Int) (P Q R : Addr) (c d cw : Nat) (w : World) (hl : ws.length = l) (hkk : kk = k) (hm : Sits w m P Q c d) (hs : s = 0 ∨ s = 1) (hR : Row w R ws) (hk : k < m.n) (hw : k + l ≤ m.n) :
    Calls Try.prog 32 #[.agg #[.int .i64 m.n, .slice (some P) m.n c, .slice (some Q) m.n d], .agg #[.int .i64 s, .int .i64 kk], .slice (some R) l cw] w (Gives w (m.put s (splice (m.sp s) k ws))) := by
  subst hl hkk
  exact lay_any m s ws k P Q R c d cw w hm hs hR hk hw

set_option maxHeartbeats 2000000 in
theorem clear_at0 (n : Nat) (xs ys : List Int) (P Q : Addr) (c d : Nat) (w : World) (hm : Sits w ⟨n, xs, ys⟩ P Q c d) :
    Calls Try.prog 22 #[.agg #[.int .i64 n, .slice (some P) n c, .slice (some Q) n d], .int .i64 0] w (Gives w (Me.put ⟨n, xs, ys⟩ 0 (splice (Me.sp ⟨n, xs, ys⟩ 0) 0 (zers n)))) := by
  have hmk := make_is n hm.1.2.1
  have hlay := Lib.hid (fun (W : World) (R : Addr) (cw : Nat) (hR : Row W R (zers n)) (hU : Up w W) => lay_len ⟨n, xs, ys⟩ 0 (zers n) n 0 0 P Q R c d cw W (len_zers n) rfl (hm.up hU) (by decide) hR (by have := hm.1.1; simp at this ⊢; omega) (by simp))
  generalize Me.put ⟨n, xs, ys⟩ 0 (splice (Me.sp ⟨n, xs, ys⟩ 0) 0 (zers n)) = M at hlay ⊢
  clear hm
  go_enter Try.func22, Try.ntmps22
  go_wp2
  have hr := Lib.hid (new_row ((w.alloc (.cells #[.int .i64 n, .slice (some P) n c, .slice (some Q) n d] 25)).alloc (.cells #[.int .i64 0, .slice none 0 0, .slice none 0 0] 25)) (zers n) 26 (w.heap.size + 1 + 1) (by simp))
  have hu := Lib.hid (show Up w (((w.alloc (.cells #[.int .i64 n, .slice (some P) n c, .slice (some Q) n d] 25)).alloc (.cells #[.int .i64 0, .slice none 0 0, .slice none 0 0] 25)).alloc (.cells (wds (zers n)).toArray 26)).drew from ((((Up.refl w).alloc _).alloc _).alloc _).drew)
  have F := Lib.hid (show Blk (((w.alloc (.cells #[.int .i64 n, .slice (some P) n c, .slice (some Q) n d] 25)).alloc (.cells #[.int .i64 0, .slice none 0 0, .slice none 0 0] 25)).alloc (.cells (wds (zers n)).toArray 26)).drew (w.heap.size + 1) 25 #[.int .i64 0, .slice none 0 0, .slice none 0 0] from by simpa using ((Blk.new (w.alloc (.cells #[.int .i64 n, .slice (some P) n c, .slice (some Q) n d] 25)) 25 #[.int .i64 0, .slice none 0 0, .slice none 0 0]).alloc (.cells (wds (zers n)).toArray 26)).drew)
  go_region_with (go_at_call 32; refine (hlay.out _ _ _ hr.out hu.out).mono ?_; rintro e w3 ⟨P', Q', c', d', rfl, hS, h3⟩; have F3 := F.out.up h3; have F3c := F3.cell; have F3f := F3.frozen; have U3 := hu.out.trans h3; clear h3)
  all_goals
    go_wp2
    refine bodyPost_ret (v := .agg #[.int .i64 M.n, .slice (some P') M.n c', .slice (some Q') M.n d']) (by simp [results, Try.results22, go_sem, F3c]) rfl ?_
    exact ⟨P', Q', c', d', rfl, hS.far3 F3 _ _ _, U3.set3 (by omega) _ _ _⟩

set_option maxHeartbeats 2000000 in
theorem clear_at1 (n : Nat) (xs ys : List Int) (P Q : Addr) (c d : Nat) (w : World) (hm : Sits w ⟨n, xs, ys⟩ P Q c d) :
    Calls Try.prog 22 #[.agg #[.int .i64 n, .slice (some P) n c, .slice (some Q) n d], .int .i64 1] w (Gives w (Me.put ⟨n, xs, ys⟩ 1 (splice (Me.sp ⟨n, xs, ys⟩ 1) 0 (zers n)))) := by
  have hmk := make_is n hm.1.2.1
  have hlay := Lib.hid (fun (W : World) (R : Addr) (cw : Nat) (hR : Row W R (zers n)) (hU : Up w W) => lay_len ⟨n, xs, ys⟩ 1 (zers n) n 0 0 P Q R c d cw W (len_zers n) rfl (hm.up hU) (by decide) hR (by have := hm.1.1; simp at this ⊢; omega) (by simp))
  generalize Me.put ⟨n, xs, ys⟩ 1 (splice (Me.sp ⟨n, xs, ys⟩ 1) 0 (zers n)) = M at hlay ⊢
  clear hm
  go_enter Try.func22, Try.ntmps22
  go_wp2
  have hr := Lib.hid (new_row ((w.alloc (.cells #[.int .i64 n, .slice (some P) n c, .slice (some Q) n d] 25)).alloc (.cells #[.int .i64 0, .slice none 0 0, .slice none 0 0] 25)) (zers n) 26 (w.heap.size + 1 + 1) (by simp))
  have hu := Lib.hid (show Up w (((w.alloc (.cells #[.int .i64 n, .slice (some P) n c, .slice (some Q) n d] 25)).alloc (.cells #[.int .i64 0, .slice none 0 0, .slice none 0 0] 25)).alloc (.cells (wds (zers n)).toArray 26)).drew from ((((Up.refl w).alloc _).alloc _).alloc _).drew)
  have F := Lib.hid (show Blk (((w.alloc (.cells #[.int .i64 n, .slice (some P) n c, .slice (some Q) n d] 25)).alloc (.cells #[.int .i64 0, .slice none 0 0, .slice none 0 0] 25)).alloc (.cells (wds (zers n)).toArray 26)).drew (w.heap.size + 1) 25 #[.int .i64 0, .slice none 0 0, .slice none 0 0] from by simpa using ((Blk.new (w.alloc (.cells #[.int .i64 n, .slice (some P) n c, .slice (some Q) n d] 25)) 25 #[.int .i64 0, .slice none 0 0, .slice none 0 0]).alloc (.cells (wds (zers n)).toArray 26)).drew)
  go_region_with (go_at_call 32; refine (hlay.out _ _ _ hr.out hu.out).mono ?_; rintro e w3 ⟨P', Q', c', d', rfl, hS, h3⟩; have F3 := F.out.up h3; have F3c := F3.cell; have F3f := F3.frozen; have U3 := hu.out.trans h3; clear h3)
  all_goals
    go_wp2
    refine bodyPost_ret (v := .agg #[.int .i64 M.n, .slice (some P') M.n c', .slice (some Q') M.n d']) (by simp [results, Try.results22, go_sem, F3c]) rfl ?_
    exact ⟨P', Q', c', d', rfl, hS.far3 F3 _ _ _, U3.set3 (by omega) _ _ _⟩

end Go.Proofs.Ytoneandmbnfcoaa
