/- The statement ReplayRight is proved for every input, from contracts of the functions that it calls; no condition is added. -/
import Derived.Test.YtgcpkgogjcgfbaaRpA
import Derived.Test.YtgcpkgogjcgfbaaRpB
namespace Go.Proofs.Ytgcpkgogjcgfbaa.LReplayRight
open Go.Joins Go.ChangeShapes Go.WideShapes Go.ChangeAt Go.RowKit Go.Deep
set_option linter.unusedVariables false
set_option linter.unusedSimpArgs false

theorem tot_le {L : List (List E.Ent)} {b : Nat} (h : ∀ r ∈ L, r.length ≤ b) : tot L ≤ L.length * b := by
  induction L with
  | nil => simp [tot]
  | cons r L ih =>
    have h1 := ih (fun x hx => h x (List.mem_cons_of_mem _ hx))
    have h2 := h r List.mem_cons_self
    simp only [tot, List.map_cons, List.sum_cons, List.length_cons, Nat.add_mul, Nat.one_mul] at h1 ⊢
    omega
theorem mny_tot : ∀ (L : List (List E.Ent)) (a : Int), 0 ≤ a → a + (tot L : Int) ≤ 9223372036854775807 → E.mny L a = a + tot L
  | [], a, h0, h1 => by simp [E.mny, tot]
  | r :: L, a, h0, h1 => by
    have e : tot (r :: L) = r.length + tot L := by simp [tot]
    rw [e] at h1 ⊢
    unfold E.mny
    rw [E.wrap_id (by unfold I64; omega), mny_tot L (a + r.length) (by omega) (by omega)]
    omega
set_option maxRecDepth 100000 in
set_option maxHeartbeats 8000000 in
theorem walk_no (N : Int) (A0 A1 : Option Addr) (n0 n1 c0 c1 : Nat) (s a l x y : Int) (LA : Option Addr) (n Lc : Nat) (w : World) (hfew : fewr N n0 n1 s a l x y = false) :
    Calls Try.prog 5 #[.agg #[.int .i64 N, .slice A0 n0 c0, .slice A1 n1 c1, .int .i64 s, .int .i64 a, .int .i64 l, .int .i64 x, .int .i64 y], .slice LA n Lc] w (fun e w' => e = .returned (.bool true) ∧ Up w w') := by
  have hf := fun w => fewr_any N s a l x y A0 A1 n0 n1 c0 c1 w
  rw [hfew] at hf
  have hf := Lib.hid hf
  go_enter Try.func5, Try.ntmps5
  go_wp2_with (fail)
  refine calls_at (fun V1 hV => ?_)
  have kv : Up w V1 := by rw [hV]; (repeat (first | with_reducible exact Up.refl _ | with_reducible refine Up.alloc ?_ _ | with_reducible refine Up.drew ?_ | refine Up.setCell ?_ (by simp <;> omega) _))
  have Xv : Blk V1 (w.heap.size) 31 #[.int .i64 N, .slice A0 n0 c0, .slice A1 n1 c1, .int .i64 s, .int .i64 a, .int .i64 l, .int .i64 x, .int .i64 y] := by rw [hV]; (repeat (first | with_reducible exact Blk.new' _ (by simp) _ _ | with_reducible refine Blk.alloc ?_ _ | with_reducible refine Blk.drew ?_ | refine Blk.far ?_ (by simp <;> omega) _))
  have Uv : Up w V1 := kv
  clear hV kv 
  refine (shown13 _).mono ?_
  rintro e w1 ⟨rfl, k1⟩
  have X1 := Xv.up k1
  have U1 := Uv.trans k1
  clear k1 Uv Xv 
  have X1c := X1.cell
  have X1f := X1.frozen
  have X1l := X1.lt
  go_wp2_with (fail)
  refine calls_at (fun V2 hV => ?_)
  have kv : Up w1 V2 := by rw [hV]; (repeat (first | with_reducible exact Up.refl _ | with_reducible refine Up.alloc ?_ _ | with_reducible refine Up.drew ?_ | refine Up.setCell ?_ (by simp <;> omega) _))
  have Xv := X1.up kv
  have Uv : Up w V2 := U1.trans kv
  clear hV kv X1 X1c X1f X1l U1
  refine (hf.out _).mono ?_
  rintro e w2 ⟨rfl, k2⟩
  have X2 := Xv.up k2
  have U2 := Uv.trans k2
  clear k2 Uv Xv 
  have X2c := X2.cell
  have X2f := X2.frozen
  have X2l := X2.lt
  go_wp2
  go_ret
  refine ⟨rfl, ?_⟩
  (repeat (first | with_reducible exact U2 | with_reducible refine Up.alloc ?_ _ | with_reducible refine Up.drew ?_ | refine Up.setCell ?_ (by simp <;> omega) _))

set_option maxRecDepth 100000 in
set_option maxHeartbeats 8000000 in
theorem walk_long (m : Me) (P Q : Addr) (c d : Nat) (s a l x y : Int) (LA : Option Addr) (n Lc : Nat) (w : World) (hm : Sits w m P Q c d) (hwf : m.wf) (hn : m.n ≤ 200) (hr : rgt s a l) (hl : l = m.n) (hp : (x = 0 ∧ y = 0) ∨ (0 ≤ x ∧ x ≤ y ∧ y ≤ a)) (h : 10 < n) :
    Calls Try.prog 5 #[.agg #[.int .i64 m.n, .slice (some P) m.n c, .slice (some Q) m.n d, .int .i64 s, .int .i64 a, .int .i64 l, .int .i64 x, .int .i64 y], .slice LA n Lc] w (fun e w' => e = .returned (.bool true) ∧ Up w w') := by
  have hf := fun w => fewr_any m.n s a l x y (some P) (some Q) m.n m.n c d w
  rw [fewr_ok m s a l x y hm.1 hn hr hl hp] at hf
  have hf := Lib.hid hf
  have q0 : decide ((10 : Int) < (n : Int)) = true := decide_eq_true (by omega)
  clear hm hwf hn hr hl hp
  go_enter Try.func5, Try.ntmps5
  go_wp2_with (fail)
  refine calls_at (fun V1 hV => ?_)
  have kv : Up w V1 := by rw [hV]; (repeat (first | with_reducible exact Up.refl _ | with_reducible refine Up.alloc ?_ _ | with_reducible refine Up.drew ?_ | refine Up.setCell ?_ (by simp <;> omega) _))
  have Xv : Blk V1 (w.heap.size) 31 #[.int .i64 m.n, .slice (some P) m.n c, .slice (some Q) m.n d, .int .i64 s, .int .i64 a, .int .i64 l, .int .i64 x, .int .i64 y] := by rw [hV]; (repeat (first | with_reducible exact Blk.new' _ (by simp) _ _ | with_reducible refine Blk.alloc ?_ _ | with_reducible refine Blk.drew ?_ | refine Blk.far ?_ (by simp <;> omega) _))
  have Uv : Up w V1 := kv
  clear hV kv 
  refine (shown13 _).mono ?_
  rintro e w1 ⟨rfl, k1⟩
  have X1 := Xv.up k1
  have U1 := Uv.trans k1
  clear k1 Uv Xv 
  have X1c := X1.cell
  have X1f := X1.frozen
  have X1l := X1.lt
  go_wp2_with (fail)
  refine calls_at (fun V2 hV => ?_)
  have kv : Up w1 V2 := by rw [hV]; (repeat (first | with_reducible exact Up.refl _ | with_reducible refine Up.alloc ?_ _ | with_reducible refine Up.drew ?_ | refine Up.setCell ?_ (by simp <;> omega) _))
  have Xv := X1.up kv
  have Uv : Up w V2 := U1.trans kv
  clear hV kv X1 X1c X1f X1l U1
  refine (hf.out _).mono ?_
  rintro e w2 ⟨rfl, k2⟩
  have X2 := Xv.up k2
  have U2 := Uv.trans k2
  clear k2 Uv Xv 
  have X2c := X2.cell
  have X2f := X2.frozen
  have X2l := X2.lt
  go_wp2
  go_ret
  refine ⟨rfl, ?_⟩
  (repeat (first | with_reducible exact U2 | with_reducible refine Up.alloc ?_ _ | with_reducible refine Up.drew ?_ | refine Up.setCell ?_ (by simp <;> omega) _))

set_option maxRecDepth 100000 in
set_option maxHeartbeats 8000000 in
theorem walk_many (m : Me) (P Q : Addr) (c d : Nat) (s a l x y : Int) (LA : Option Addr) (n Lc : Nat) (w : World) (hm : Sits w m P Q c d) (hwf : m.wf) (hn : m.n ≤ 200) (hr : rgt s a l) (hl : l = m.n) (hp : (x = 0 ∧ y = 0) ∨ (0 ≤ x ∧ x ≤ y ∧ y ≤ a)) (L : List (List E.Ent)) (hL : E.Rw w (.slice LA n Lc) L) (h : n ≤ 10) (k0 : Int) (hk0 : E.mny L 0 = k0) (h60 : 60 < k0) :
    Calls Try.prog 5 #[.agg #[.int .i64 m.n, .slice (some P) m.n c, .slice (some Q) m.n d, .int .i64 s, .int .i64 a, .int .i64 l, .int .i64 x, .int .i64 y], .slice LA n Lc] w (fun e w' => e = .returned (.bool true) ∧ Up w w') := by
  have hf := fun w => fewr_any m.n s a l x y (some P) (some Q) m.n m.n c d w
  rw [fewr_ok m s a l x y hm.1 hn hr hl hp] at hf
  have hf := Lib.hid hf
  have hMa := Lib.hid (show ∀ (W : World) (U : Up w W), Calls Try.prog 12 #[.slice LA n Lc] W (fun e w' => e = .returned (.int .i64 k0) ∧ Up W w') from fun W U => by
    refine (E.rmany_any _ L W (hL.up U)).mono ?_
    rintro e w' ⟨rfl, rfl⟩
    exact ⟨by rw [hk0], Up.refl _⟩)
  have q0 : decide ((10 : Int) < (n : Int)) = false := decide_eq_false (by omega)
  have q1 : decide ((60 : Int) < k0) = true := decide_eq_true h60
  clear hm hwf hn hr hl hp hL hk0
  go_enter Try.func5, Try.ntmps5
  go_wp2_with (fail)
  refine calls_at (fun V1 hV => ?_)
  have kv : Up w V1 := by rw [hV]; (repeat (first | with_reducible exact Up.refl _ | with_reducible refine Up.alloc ?_ _ | with_reducible refine Up.drew ?_ | refine Up.setCell ?_ (by simp <;> omega) _))
  have Xv : Blk V1 (w.heap.size) 31 #[.int .i64 m.n, .slice (some P) m.n c, .slice (some Q) m.n d, .int .i64 s, .int .i64 a, .int .i64 l, .int .i64 x, .int .i64 y] := by rw [hV]; (repeat (first | with_reducible exact Blk.new' _ (by simp) _ _ | with_reducible refine Blk.alloc ?_ _ | with_reducible refine Blk.drew ?_ | refine Blk.far ?_ (by simp <;> omega) _))
  have Uv : Up w V1 := kv
  clear hV kv 
  refine (shown13 _).mono ?_
  rintro e w1 ⟨rfl, k1⟩
  have X1 := Xv.up k1
  have U1 := Uv.trans k1
  clear k1 Uv Xv 
  have X1c := X1.cell
  have X1f := X1.frozen
  have X1l := X1.lt
  go_wp2_with (fail)
  refine calls_at (fun V2 hV => ?_)
  have kv : Up w1 V2 := by rw [hV]; (repeat (first | with_reducible exact Up.refl _ | with_reducible refine Up.alloc ?_ _ | with_reducible refine Up.drew ?_ | refine Up.setCell ?_ (by simp <;> omega) _))
  have Xv := X1.up kv
  have Uv : Up w V2 := U1.trans kv
  clear hV kv X1 X1c X1f X1l U1
  refine (hf.out _).mono ?_
  rintro e w2 ⟨rfl, k2⟩
  have X2 := Xv.up k2
  have U2 := Uv.trans k2
  clear k2 Uv Xv 
  have X2c := X2.cell
  have X2f := X2.frozen
  have X2l := X2.lt
  go_wp2_with (fail)
  refine calls_at (fun V3 hV => ?_)
  have kv : Up w2 V3 := by rw [hV]; (repeat (first | with_reducible exact Up.refl _ | with_reducible refine Up.alloc ?_ _ | with_reducible refine Up.drew ?_ | refine Up.setCell ?_ (by simp <;> omega) _))
  have Xv := X2.up kv
  have Uv : Up w V3 := U2.trans kv
  clear hV kv X2 X2c X2f X2l U2
  refine (hMa.out V3 Uv).mono ?_
  rintro e w3 ⟨rfl, k3⟩
  have X3 := Xv.up k3
  have U3 := Uv.trans k3
  clear k3 Uv Xv 
  have X3c := X3.cell
  have X3f := X3.frozen
  have X3l := X3.lt
  go_wp2
  go_ret
  refine ⟨rfl, ?_⟩
  (repeat (first | with_reducible exact U3 | with_reducible refine Up.alloc ?_ _ | with_reducible refine Up.drew ?_ | refine Up.setCell ?_ (by simp <;> omega) _))

set_option maxRecDepth 100000 in
set_option maxHeartbeats 8000000 in
theorem walk_ok (m : Me) (P Q : Addr) (c d : Nat) (s a l x y : Int) (LA : Option Addr) (n Lc : Nat) (w : World) (hm : Sits w m P Q c d) (hwf : m.wf) (hn : m.n ≤ 200) (hr : rgt s a l) (hl : l = m.n) (hp : (x = 0 ∧ y = 0) ∨ (0 ≤ x ∧ x ≤ y ∧ y ≤ a)) (L : List (List E.Ent)) (hL : E.Rw w (.slice LA n Lc) L) (hLn : L.length = n) (hLu : ∀ r ∈ L, ∀ y ∈ r, U64 y.1) (hLl : ∀ r ∈ L, r.length ≤ 8796093021952) (h : n ≤ 10) (k0 : Int) (hk0 : E.mny L 0 = k0) (h60 : ¬ 60 < k0) (K : Me) (a2 : Int) (J : List (List E.Ent))  (hz : lgs s l L m a = ⟨K, a2, J, 0⟩) (hk1 : E.mny J 0 = 0) (h0 : 0 ≤ k0) :
    Calls Try.prog 5 #[.agg #[.int .i64 m.n, .slice (some P) m.n c, .slice (some Q) m.n d, .int .i64 s, .int .i64 a, .int .i64 l, .int .i64 x, .int .i64 y], .slice LA n Lc] w (fun e w' => e = .returned (.bool true) ∧ Up w w') := by
  have hf := fun w => fewr_any m.n s a l x y (some P) (some Q) m.n m.n c d w
  rw [fewr_ok m s a l x y hm.1 hn hr hl hp] at hf
  have hf := Lib.hid hf
  have hMa := Lib.hid (show ∀ (W : World) (U : Up w W), Calls Try.prog 12 #[.slice LA n Lc] W (fun e w' => e = .returned (.int .i64 k0) ∧ Up W w') from fun W U => by
    refine (E.rmany_any _ L W (hL.up U)).mono ?_
    rintro e w' ⟨rfl, rfl⟩
    exact ⟨by rw [hk0], Up.refl _⟩)
  have hLo := Lib.hid (show ∀ (W : World) (U : Up w W), Calls Try.prog 10 #[rov m.n (sl P m.n c) (sl Q m.n d) s a l x y, .slice LA n Lc] W (fun e w' => ∃ P' Q' c' d' A' k', e = .returned (.tuple #[rov K.n (sl P' K.n c') (sl Q' K.n d') s a2 l x y, .slice A' n k', .int .i64 0]) ∧ Sits w' K P' Q' c' d' ∧ E.Rw w' (.slice A' n k') J ∧ Up W w') from fun W U => by
    have q := E.logs_any m s a l x y P Q c d _ L W (hm.up U) hwf hr hl (hL.up U) (by omega) (fun r hr => Nat.le_trans (hLl r hr) (by omega)) hLu
    rw [hz] at q
    refine q.mono ?_
    rintro e w' ⟨P', Q', c', d', v, rfl, hs, hv, hu⟩
    have hv2 := hv
    obtain ⟨A', k', rfl, -⟩ := hv
    have hJn : J.length = n := by have := lgs_len (s := s) (l := l) L m a; rw [hz] at this; rw [← hLn]; exact this
    simp only [] at hv2 ⊢
    rw [hJn] at hv2 ⊢
    exact ⟨P', Q', c', d', A', k', rfl, hs, hv2, hu⟩)
  have hkb := lgs_kb (s := s) (l := l) L m a hm.1 hwf hr hl
  rw [hz] at hkb
  obtain ⟨hr2, hl2⟩ := hkb.rg hr hl
  have hle := hkb.le
  have hrob : rob K.n K.n K.n s a2 l x y = true := rob_ok K s a2 l x y hkb.ok hr2 hl2 (by
    simp only [] at hle
    rcases hp with q | q
    · exact .inl q
    · exact .inr ⟨q.1, q.2.1, Int.le_trans q.2.2 hle⟩)
  have hRi := Lib.hid (show ∀ (P1 Q1 : Addr) (c1 d1 : Nat) (W : World), Calls Try.prog 16 #[rov K.n (sl P1 K.n c1) (sl Q1 K.n d1) s a2 l x y] W (fun e w' => e = .returned (.bool true) ∧ Up W w') from fun P1 Q1 c1 d1 W => by
    have q := roright_any K.n s a2 l x y (some P1) (some Q1) K.n K.n c1 d1 W
    rw [hrob] at q
    exact q)
  have hMb := Lib.hid (show ∀ (W : World) (A' : Option Addr) (k' : Nat) (h : E.Rw W (.slice A' n k') J), Calls Try.prog 12 #[.slice A' n k'] W (fun e w' => e = .returned (.int .i64 0) ∧ Up W w') from fun W A' k' h => by
    refine (E.rmany_any _ J W h).mono ?_
    rintro e w' ⟨rfl, rfl⟩
    exact ⟨by rw [hk1], Up.refl _⟩)
  have hT := eq_buf x y x y
  rw [tsame_self] at hT
  have q0 : decide ((10 : Int) < (n : Int)) = false := decide_eq_false (by omega)
  have q1 : decide ((60 : Int) < k0) = false := decide_eq_false (by omega)
  have q2 : decide ((0 : Int) ≤ k0) = true := decide_eq_true h0
  clear hm hwf hn hr hl hp hL hLn hLu hLl hk0 hz hk1 hkb hr2 hl2 hle hrob h0
  go_enter Try.func5, Try.ntmps5
  go_wp2_with (fail)
  refine calls_at (fun V1 hV => ?_)
  have kv : Up w V1 := by rw [hV]; (repeat (first | with_reducible exact Up.refl _ | with_reducible refine Up.alloc ?_ _ | with_reducible refine Up.drew ?_ | refine Up.setCell ?_ (by simp <;> omega) _))
  have Xv : Blk V1 (w.heap.size) 31 #[.int .i64 m.n, .slice (some P) m.n c, .slice (some Q) m.n d, .int .i64 s, .int .i64 a, .int .i64 l, .int .i64 x, .int .i64 y] := by rw [hV]; (repeat (first | with_reducible exact Blk.new' _ (by simp) _ _ | with_reducible refine Blk.alloc ?_ _ | with_reducible refine Blk.drew ?_ | refine Blk.far ?_ (by simp <;> omega) _))
  have Uv : Up w V1 := kv
  clear hV kv 
  refine (shown13 _).mono ?_
  rintro e w1 ⟨rfl, k1⟩
  have X1 := Xv.up k1
  have U1 := Uv.trans k1
  clear k1 Uv Xv 
  have X1c := X1.cell
  have X1f := X1.frozen
  have X1l := X1.lt
  go_wp2_with (fail)
  refine calls_at (fun V2 hV => ?_)
  have kv : Up w1 V2 := by rw [hV]; (repeat (first | with_reducible exact Up.refl _ | with_reducible refine Up.alloc ?_ _ | with_reducible refine Up.drew ?_ | refine Up.setCell ?_ (by simp <;> omega) _))
  have Xv := X1.up kv
  have Uv : Up w V2 := U1.trans kv
  clear hV kv X1 X1c X1f X1l U1
  refine (hf.out _).mono ?_
  rintro e w2 ⟨rfl, k2⟩
  have X2 := Xv.up k2
  have U2 := Uv.trans k2
  clear k2 Uv Xv 
  have X2c := X2.cell
  have X2f := X2.frozen
  have X2l := X2.lt
  go_wp2_with (fail)
  refine calls_at (fun V3 hV => ?_)
  have kv : Up w2 V3 := by rw [hV]; (repeat (first | with_reducible exact Up.refl _ | with_reducible refine Up.alloc ?_ _ | with_reducible refine Up.drew ?_ | refine Up.setCell ?_ (by simp <;> omega) _))
  have Xv := X2.up kv
  have Uv : Up w V3 := U2.trans kv
  clear hV kv X2 X2c X2f X2l U2
  refine (hMa.out V3 Uv).mono ?_
  rintro e w3 ⟨rfl, k3⟩
  have X3 := Xv.up k3
  have U3 := Uv.trans k3
  clear k3 Uv Xv 
  have X3c := X3.cell
  have X3f := X3.frozen
  have X3l := X3.lt
  go_wp2_with (fail)
  refine calls_at (fun V4 hV => ?_)
  have kv : Up w3 V4 := by rw [hV]; (repeat (first | with_reducible exact Up.refl _ | with_reducible refine Up.alloc ?_ _ | with_reducible refine Up.drew ?_ | refine Up.setCell ?_ (by simp <;> omega) _))
  have Xv := X3.up kv
  have Uv : Up w V4 := U3.trans kv
  clear hV kv X3 X3c X3f X3l U3
  refine (hLo.out V4 Uv).mono ?_
  rintro e w4 ⟨P1, Q1, c1, d1, A1, k1_, rfl, s14, hJ, k4⟩
  have X4 := Xv.up k4
  have U4 := Uv.trans k4
  clear k4 Uv Xv 
  have X4c := X4.cell
  have X4f := X4.frozen
  have X4l := X4.lt
  have HJ4 := Lib.hid hJ
  clear hJ
  go_wp2_with (fail)
  refine calls_at (fun V5 hV => ?_)
  have kv : Up w4 V5 := by rw [hV]; (repeat (first | with_reducible exact Up.refl _ | with_reducible refine Up.alloc ?_ _ | with_reducible refine Up.drew ?_ | refine Up.setCell ?_ (by simp <;> omega) _))
  have Xv := X4.up kv
  have Yv : Blk V5 (w4.heap.size) 31 #[.int .i64 K.n, .slice (some P1) K.n c1, .slice (some Q1) K.n d1, .int .i64 s, .int .i64 a2, .int .i64 l, .int .i64 x, .int .i64 y] := by rw [hV]; (repeat (first | with_reducible exact Blk.new' _ (by simp) _ _ | with_reducible refine Blk.alloc ?_ _ | with_reducible refine Blk.drew ?_ | refine Blk.far ?_ (by simp <;> omega) _))
  have Uv : Up w V5 := U4.trans kv
  have s1v := s14.up kv
  have HUV := Lib.hid kv
  clear hV kv X4 X4c X4f X4l U4 s14
  have HJ5 := Lib.hid (HJ4.out.up HUV.out)
  refine (hRi.out P1 Q1 c1 d1 V5).mono ?_
  rintro e w5 ⟨rfl, k5⟩
  have X5 := Xv.up k5
  have Y5 := Yv.up k5
  have U5 := Uv.trans k5
  have HJ6 := Lib.hid (HJ5.out.up k5)
  clear k5 Uv Xv Yv s1v HJ4 HJ5 HUV
  have X5c := X5.cell
  have X5f := X5.frozen
  have X5l := X5.lt
  have Y5c := Y5.cell
  have Y5f := Y5.frozen
  have Y5l := Y5.lt
  go_wp2_with (fail)
  refine (hMb.out w5 A1 k1_ HJ6.out).mono ?_
  rintro e w6 ⟨rfl, k6⟩
  have X6 := X5.up k6
  have Y6 := Y5.up k6
  have U6 := U5.trans k6
  have HJ7 := Lib.hid (HJ6.out.up k6)
  clear k6 U5 X5 Y5 X5c X5f X5l Y5c Y5f Y5l HJ6
  have X6c := X6.cell
  have X6l := X6.lt
  have Y6c := Y6.cell
  have Y6l := Y6.lt
  go_wp2_with (fail)
  refine (hMb.out w6 A1 k1_ HJ7.out).mono ?_
  rintro e w7 ⟨rfl, k7⟩
  have X7 := X6.up k7
  have Y7 := Y6.up k7
  have U7 := U6.trans k7
  clear k7 U6 X6 Y6 X6c X6l Y6c Y6l HJ7
  have X7c := X7.cell
  have X7l := X7.lt
  have Y7c := Y7.cell
  have Y7l := Y7.lt
  go_wp2_with (fail)
  refine (hMa.out w7 U7).mono ?_
  rintro e w8 ⟨rfl, k8⟩
  have X8 := X7.up k8
  have Y8 := Y7.up k8
  have U8 := U7.trans k8
  clear k8 U7 X7 Y7 X7c X7l Y7c Y7l
  have X8c := X8.cell
  have X8l := X8.lt
  have Y8c := Y8.cell
  have Y8l := Y8.lt
  go_wp2
  go_ret
  exact ⟨rfl, U8⟩

set_option maxRecDepth 100000 in
set_option maxHeartbeats 8000000 in
theorem walk_er (m : Me) (P Q : Addr) (c d : Nat) (s a l x y : Int) (LA : Option Addr) (n Lc : Nat) (w : World) (hm : Sits w m P Q c d) (hwf : m.wf) (hn : m.n ≤ 200) (hr : rgt s a l) (hl : l = m.n) (hp : (x = 0 ∧ y = 0) ∨ (0 ≤ x ∧ x ≤ y ∧ y ≤ a)) (L : List (List E.Ent)) (hL : E.Rw w (.slice LA n Lc) L) (hLn : L.length = n) (hLu : ∀ r ∈ L, ∀ y ∈ r, U64 y.1) (hLl : ∀ r ∈ L, r.length ≤ 8796093021952) (h : n ≤ 10) (k0 : Int) (hk0 : E.mny L 0 = k0) (h60 : ¬ 60 < k0) (K : Me) (a2 : Int) (J : List (List E.Ent)) (er k1 : Int) (hz : lgs s l L m a = ⟨K, a2, J, er⟩) (hk1 : E.mny J 0 = k1) (he : er ≠ 0) (hk : k1 ≠ 0) (hkk : k1 ≤ k0) :
    Calls Try.prog 5 #[.agg #[.int .i64 m.n, .slice (some P) m.n c, .slice (some Q) m.n d, .int .i64 s, .int .i64 a, .int .i64 l, .int .i64 x, .int .i64 y], .slice LA n Lc] w (fun e w' => e = .returned (.bool true) ∧ Up w w') := by
  have hf := fun w => fewr_any m.n s a l x y (some P) (some Q) m.n m.n c d w
  rw [fewr_ok m s a l x y hm.1 hn hr hl hp] at hf
  have hf := Lib.hid hf
  have hMa := Lib.hid (show ∀ (W : World) (U : Up w W), Calls Try.prog 12 #[.slice LA n Lc] W (fun e w' => e = .returned (.int .i64 k0) ∧ Up W w') from fun W U => by
    refine (E.rmany_any _ L W (hL.up U)).mono ?_
    rintro e w' ⟨rfl, rfl⟩
    exact ⟨by rw [hk0], Up.refl _⟩)
  have hLo := Lib.hid (show ∀ (W : World) (U : Up w W), Calls Try.prog 10 #[rov m.n (sl P m.n c) (sl Q m.n d) s a l x y, .slice LA n Lc] W (fun e w' => ∃ P' Q' c' d' A' k', e = .returned (.tuple #[rov K.n (sl P' K.n c') (sl Q' K.n d') s a2 l x y, .slice A' n k', .int .i64 er]) ∧ Sits w' K P' Q' c' d' ∧ E.Rw w' (.slice A' n k') J ∧ Up W w') from fun W U => by
    have q := E.logs_any m s a l x y P Q c d _ L W (hm.up U) hwf hr hl (hL.up U) (by omega) (fun r hr => Nat.le_trans (hLl r hr) (by omega)) hLu
    rw [hz] at q
    refine q.mono ?_
    rintro e w' ⟨P', Q', c', d', v, rfl, hs, hv, hu⟩
    have hv2 := hv
    obtain ⟨A', k', rfl, -⟩ := hv
    have hJn : J.length = n := by have := lgs_len (s := s) (l := l) L m a; rw [hz] at this; rw [← hLn]; exact this
    simp only [] at hv2 ⊢
    rw [hJn] at hv2 ⊢
    exact ⟨P', Q', c', d', A', k', rfl, hs, hv2, hu⟩)
  have hkb := lgs_kb (s := s) (l := l) L m a hm.1 hwf hr hl
  rw [hz] at hkb
  obtain ⟨hr2, hl2⟩ := hkb.rg hr hl
  have hle := hkb.le
  have hrob : rob K.n K.n K.n s a2 l x y = true := rob_ok K s a2 l x y hkb.ok hr2 hl2 (by
    simp only [] at hle
    rcases hp with q | q
    · exact .inl q
    · exact .inr ⟨q.1, q.2.1, Int.le_trans q.2.2 hle⟩)
  have hRi := Lib.hid (show ∀ (P1 Q1 : Addr) (c1 d1 : Nat) (W : World), Calls Try.prog 16 #[rov K.n (sl P1 K.n c1) (sl Q1 K.n d1) s a2 l x y] W (fun e w' => e = .returned (.bool true) ∧ Up W w') from fun P1 Q1 c1 d1 W => by
    have q := roright_any K.n s a2 l x y (some P1) (some Q1) K.n K.n c1 d1 W
    rw [hrob] at q
    exact q)
  have hMb := Lib.hid (show ∀ (W : World) (A' : Option Addr) (k' : Nat) (h : E.Rw W (.slice A' n k') J), Calls Try.prog 12 #[.slice A' n k'] W (fun e w' => e = .returned (.int .i64 k1) ∧ Up W w') from fun W A' k' h => by
    refine (E.rmany_any _ J W h).mono ?_
    rintro e w' ⟨rfl, rfl⟩
    exact ⟨by rw [hk1], Up.refl _⟩)
  have hT := eq_buf x y x y
  rw [tsame_self] at hT
  have q0 : decide ((10 : Int) < (n : Int)) = false := decide_eq_false (by omega)
  have q1 : decide ((60 : Int) < k0) = false := decide_eq_false (by omega)
  have q2 : (er == 0) = false := beq_eq_false_iff_ne.2 he
  have q3 : (k1 == 0) = false := beq_eq_false_iff_ne.2 hk
  have q4 : decide (k1 ≤ k0) = true := decide_eq_true hkk
  clear hm hwf hn hr hl hp hL hLn hLu hLl hk0 hz hk1 hkb hr2 hl2 hle hrob he hk hkk
  go_enter Try.func5, Try.ntmps5
  go_wp2_with (fail)
  refine calls_at (fun V1 hV => ?_)
  have kv : Up w V1 := by rw [hV]; (repeat (first | with_reducible exact Up.refl _ | with_reducible refine Up.alloc ?_ _ | with_reducible refine Up.drew ?_ | refine Up.setCell ?_ (by simp <;> omega) _))
  have Xv : Blk V1 (w.heap.size) 31 #[.int .i64 m.n, .slice (some P) m.n c, .slice (some Q) m.n d, .int .i64 s, .int .i64 a, .int .i64 l, .int .i64 x, .int .i64 y] := by rw [hV]; (repeat (first | with_reducible exact Blk.new' _ (by simp) _ _ | with_reducible refine Blk.alloc ?_ _ | with_reducible refine Blk.drew ?_ | refine Blk.far ?_ (by simp <;> omega) _))
  have Uv : Up w V1 := kv
  clear hV kv 
  refine (shown13 _).mono ?_
  rintro e w1 ⟨rfl, k1⟩
  have X1 := Xv.up k1
  have U1 := Uv.trans k1
  clear k1 Uv Xv 
  have X1c := X1.cell
  have X1f := X1.frozen
  have X1l := X1.lt
  go_wp2_with (fail)
  refine calls_at (fun V2 hV => ?_)
  have kv : Up w1 V2 := by rw [hV]; (repeat (first | with_reducible exact Up.refl _ | with_reducible refine Up.alloc ?_ _ | with_reducible refine Up.drew ?_ | refine Up.setCell ?_ (by simp <;> omega) _))
  have Xv := X1.up kv
  have Uv : Up w V2 := U1.trans kv
  clear hV kv X1 X1c X1f X1l U1
  refine (hf.out _).mono ?_
  rintro e w2 ⟨rfl, k2⟩
  have X2 := Xv.up k2
  have U2 := Uv.trans k2
  clear k2 Uv Xv 
  have X2c := X2.cell
  have X2f := X2.frozen
  have X2l := X2.lt
  go_wp2_with (fail)
  refine calls_at (fun V3 hV => ?_)
  have kv : Up w2 V3 := by rw [hV]; (repeat (first | with_reducible exact Up.refl _ | with_reducible refine Up.alloc ?_ _ | with_reducible refine Up.drew ?_ | refine Up.setCell ?_ (by simp <;> omega) _))
  have Xv := X2.up kv
  have Uv : Up w V3 := U2.trans kv
  clear hV kv X2 X2c X2f X2l U2
  refine (hMa.out V3 Uv).mono ?_
  rintro e w3 ⟨rfl, k3⟩
  have X3 := Xv.up k3
  have U3 := Uv.trans k3
  clear k3 Uv Xv 
  have X3c := X3.cell
  have X3f := X3.frozen
  have X3l := X3.lt
  go_wp2_with (fail)
  refine calls_at (fun V4 hV => ?_)
  have kv : Up w3 V4 := by rw [hV]; (repeat (first | with_reducible exact Up.refl _ | with_reducible refine Up.alloc ?_ _ | with_reducible refine Up.drew ?_ | refine Up.setCell ?_ (by simp <;> omega) _))
  have Xv := X3.up kv
  have Uv : Up w V4 := U3.trans kv
  clear hV kv X3 X3c X3f X3l U3
  refine (hLo.out V4 Uv).mono ?_
  rintro e w4 ⟨P1, Q1, c1, d1, A1, k1_, rfl, s14, hJ, k4⟩
  have X4 := Xv.up k4
  have U4 := Uv.trans k4
  clear k4 Uv Xv 
  have X4c := X4.cell
  have X4f := X4.frozen
  have X4l := X4.lt
  have HJ4 := Lib.hid hJ
  clear hJ
  go_wp2_with (fail)
  refine calls_at (fun V5 hV => ?_)
  have kv : Up w4 V5 := by rw [hV]; (repeat (first | with_reducible exact Up.refl _ | with_reducible refine Up.alloc ?_ _ | with_reducible refine Up.drew ?_ | refine Up.setCell ?_ (by simp <;> omega) _))
  have Xv := X4.up kv
  have Yv : Blk V5 (w4.heap.size) 31 #[.int .i64 K.n, .slice (some P1) K.n c1, .slice (some Q1) K.n d1, .int .i64 s, .int .i64 a2, .int .i64 l, .int .i64 x, .int .i64 y] := by rw [hV]; (repeat (first | with_reducible exact Blk.new' _ (by simp) _ _ | with_reducible refine Blk.alloc ?_ _ | with_reducible refine Blk.drew ?_ | refine Blk.far ?_ (by simp <;> omega) _))
  have Uv : Up w V5 := U4.trans kv
  have s1v := s14.up kv
  have HUV := Lib.hid kv
  clear hV kv X4 X4c X4f X4l U4 s14
  have HJ5 := Lib.hid (HJ4.out.up HUV.out)
  refine (hRi.out P1 Q1 c1 d1 V5).mono ?_
  rintro e w5 ⟨rfl, k5⟩
  have X5 := Xv.up k5
  have Y5 := Yv.up k5
  have U5 := Uv.trans k5
  have HJ6 := Lib.hid (HJ5.out.up k5)
  clear k5 Uv Xv Yv s1v HJ4 HJ5 HUV
  have X5c := X5.cell
  have X5f := X5.frozen
  have X5l := X5.lt
  have Y5c := Y5.cell
  have Y5f := Y5.frozen
  have Y5l := Y5.lt
  go_wp2_with (fail)
  refine (hMb.out w5 A1 k1_ HJ6.out).mono ?_
  rintro e w6 ⟨rfl, k6⟩
  have X6 := X5.up k6
  have Y6 := Y5.up k6
  have U6 := U5.trans k6
  have HJ7 := Lib.hid (HJ6.out.up k6)
  clear k6 U5 X5 Y5 X5c X5f X5l Y5c Y5f Y5l HJ6
  have X6c := X6.cell
  have X6l := X6.lt
  have Y6c := Y6.cell
  have Y6l := Y6.lt
  go_wp2_with (fail)
  refine (hMb.out w6 A1 k1_ HJ7.out).mono ?_
  rintro e w7 ⟨rfl, k7⟩
  have X7 := X6.up k7
  have Y7 := Y6.up k7
  have U7 := U6.trans k7
  clear k7 U6 X6 Y6 X6c X6l Y6c Y6l HJ7
  have X7c := X7.cell
  have X7l := X7.lt
  have Y7c := Y7.cell
  have Y7l := Y7.lt
  go_wp2_with (fail)
  refine (hMa.out w7 U7).mono ?_
  rintro e w8 ⟨rfl, k8⟩
  have X8 := X7.up k8
  have Y8 := Y7.up k8
  have U8 := U7.trans k8
  clear k8 U7 X7 Y7 X7c X7l Y7c Y7l
  have X8c := X8.cell
  have X8l := X8.lt
  have Y8c := Y8.cell
  have Y8l := Y8.lt
  go_wp2
  go_ret
  exact ⟨rfl, U8⟩

theorem walk_yes (m : Me) (P Q : Addr) (c d : Nat) (s a l x y : Int) (LA : Option Addr) (n Lc : Nat) (L : List (List E.Ent)) (w : World) (hm : Sits w m P Q c d) (hwf : m.wf) (hn : m.n ≤ 200) (hr : rgt s a l) (hl : l = m.n) (hp : (x = 0 ∧ y = 0) ∨ (0 ≤ x ∧ x ≤ y ∧ y ≤ a)) (hL : E.Rw w (.slice LA n Lc) L) (hLn : L.length = n) (hLu : ∀ r ∈ L, ∀ y ∈ r, U64 y.1) (hLl : ∀ r ∈ L, r.length ≤ 8796093021952) :
    Calls Try.prog 5 #[.agg #[.int .i64 m.n, .slice (some P) m.n c, .slice (some Q) m.n d, .int .i64 s, .int .i64 a, .int .i64 l, .int .i64 x, .int .i64 y], .slice LA n Lc] w (fun e w' => e = .returned (.bool true) ∧ Up w w') := by
  by_cases h10 : 10 < n
  · exact walk_long m P Q c d s a l x y LA n Lc w hm hwf hn hr hl hp h10
  by_cases h60 : 60 < E.mny L 0
  · exact walk_many m P Q c d s a l x y LA n Lc w hm hwf hn hr hl hp L hL (by omega) _ rfl h60
  have ht := tot_le hLl
  have ht2 : tot L ≤ 10 * 8796093021952 := Nat.le_trans ht (Nat.mul_le_mul_right _ (by omega))
  have e0 := mny_tot L 0 (Int.le_refl _) (by omega)
  have ht3 := lgs_tot (s := s) (l := l) L m a
  have e1 := mny_tot (lgs s l L m a).L 0 (Int.le_refl _) (by omega)
  by_cases he : (lgs s l L m a).e = 0
  · have h0 := lgs_tot0 L m a he
    exact walk_ok m P Q c d s a l x y LA n Lc w hm hwf hn hr hl hp L hL hLn hLu hLl (by omega) _ rfl h60 _ _ _ (by rw [← he]) (by rw [e1, h0]; rfl) (by omega)
  · have h1 := lgs_tot1 L m a he
    exact walk_er m P Q c d s a l x y LA n Lc w hm hwf hn hr hl hp L hL hLn hLu hLl (by omega) _ rfl h60 _ _ _ _ _ rfl rfl he (by omega) (by omega)
theorem walk (N : Int) (A0 A1 : Option Addr) (n0 n1 c0 c1 : Nat) (s a l x y : Int) (xs ys : List Int) (v : Value) (L : List (List E.Ent)) (w : World) (hx : SlOk w A0 n0 c0 xs) (hy : SlOk w A1 n1 c1 ys) (hL : E.Rw w v L) (hLu : ∀ r ∈ L, ∀ y ∈ r, U64 y.1) (hLl : ∀ r ∈ L, r.length ≤ 8796093021952) :
    Calls Try.prog 5 #[.agg #[.int .i64 N, .slice A0 n0 c0, .slice A1 n1 c1, .int .i64 s, .int .i64 a, .int .i64 l, .int .i64 x, .int .i64 y], v] w (fun e w' => e = .returned (.bool true) ∧ Up w w') := by
  have hL0 := hL
  obtain ⟨LA, Lc, rfl, -⟩ := hL
  cases hfew : fewr N n0 n1 s a l x y
  · exact walk_no N A0 A1 n0 n1 c0 c1 s a l x y LA _ Lc w hfew
  · obtain ⟨rfl, rfl, h16, h200, hr, hl, hp⟩ := fewr_is hfew
    obtain ⟨P, Q, rfl, rfl, hm⟩ := sits_of hx hy h16 (by omega)
    have hwf := sits_wf hx hy
    exact walk_yes ⟨n0, xs, ys⟩ P Q c0 c1 s a l x y LA _ Lc L w hm hwf h200 hr hl hp hL0 rfl hLu hLl

theorem own : ownKnob Try.prog.godebug = none := by kernel_rfl
set_option maxRecDepth 100000 in
theorem lifted (os : Os) (started : os.Started) (H : Type) (enc : TypeId × Value → H) :
    ReturnsInHanded {} Try.checked os 5 .any (Rows.replayRightSpec.pre6 enc Try.prog Try.f5 Rows.replayRightRow.domain false) (Rows.replayRightSpec.post enc Try.prog Try.f5 false true false false) := by
  refine returnsInHanded_of_change_sized (C := Try.checked) own started (by kernel_rfl) Try.func5
    (ChangeSpec.witness6 (enc := enc) (C := Try.checked) false ⟨#[], #[.agg #[.int .i64 0, .slice none 0 0, .slice none 0 0, .int .i64 0, .int .i64 0, .int .i64 0, .int .i64 0, .int .i64 0], .slice none 0 0], []⟩ 8 (by kernel_rfl) (by kernel_rfl) (by kernel_rfl) (by kernel_rfl)) ?_
  intro W base args ds gs before hval0 hW hcnd hsz0 _
  have hval : ∀ (j : Nat) t v, Try.f5.params[j]? = some t → args[j]? = some v → Value.okWide Try.prog W .any base t v := hval0
  have hW' := hW
  obtain ⟨p, q, hA0, hV, rfl, hfz, hnd⟩ := hW
  have hA : DataW.TrodAll enc Try.prog W 0 (fun _ => true) true Try.f5.params.toList args.toList ds p := hA0
  rw [Try.params5] at hA hval
  obtain ⟨v0, vs0, d0, ds0, p0, q0, hargs, rfl, rfl, h0, r0⟩ := trodAll_cons hA
  obtain ⟨v1, vs1, d1, ds1, p1, q1, rfl, rfl, rfl, h1, r1⟩ := trodAll_cons r0
  obtain ⟨rfl, rfl, rfl⟩ := trodAll_nil r1
  obtain rfl : args = #[v0, v1] := by cases args; simp_all
  obtain ⟨rfl, rfl⟩ := trodVars_none hV
  have l0 : E.Light 31 d0 := fun n hn => by
    have := List.all_eq_true.1 hsz0 n (DataW.weights_mem_each (j := 0) (t := 31) (d := d0) (by kernel_rfl) rfl n hn)
    simpa using this
  have l1 : E.Light 38 d1 := fun n hn => by
    have := List.all_eq_true.1 hsz0 n (DataW.weights_mem_each (j := 1) (t := 38) (d := d1) (by kernel_rfl) rfl n hn)
    simpa using this
  clear hsz0
  have h0k := h0
  obtain ⟨N, A0, A1, n0, n1, c0, c1, xs, ys, s, a, l, x, y, rfl, hN, hx, hy, hs, ha, hl, hxx, hyy⟩ := room_open (hval 0 31 v0 rfl rfl) h0
  have h1k := h1
  obtain ⟨L1, hL1, hu1, -, hl1⟩ := E.rows_at (hval 1 38 v1 rfl rfl) h1
  clear hA0 hval0
  simp only [List.append_nil, List.nil_append] at hW'
  refine (walk N A0 A1 n0 n1 c0 c1 s a l x y xs ys v1 L1 W hx hy hL1 (fun r hr y hy => (hu1 r hr y hy).1) (hl1 l1)).mono fun e W' ⟨he, hg⟩ => ?_
  subst he
  exact ⟨_, rfl, post_below (pa := p0 ++ p1) (pv := []) hW' (fun _ _ _ => (trodAll_cons_mk (shut_bool Try.underlying4 _) trodAll_mk0))
    (fun sp hsp => by
      have t := (trodAll_cons_mk (trod_keeps (sp := sp) (by kernel_rfl) (of_decide_eq_true (by kernel_rfl)) h0k hg (fun x hx => hW'.lt x (by simp [hx])) (fun x hx => hsp x (by simp [hx]))) (trodAll_cons_mk (trod_keeps (sp := sp) (by kernel_rfl) (of_decide_eq_true (by kernel_rfl)) h1k hg (fun x hx => hW'.lt x (by simp [hx])) (fun x hx => hsp x (by simp [hx]))) trodAll_mk0))
      simp only [List.append_nil, List.nil_append] at t
      exact t) (fun _ _ => rfl) (by simp)
    hg (ok_one (by kernel_rfl) rfl (okWide_bool_mk Try.underlying4 _))⟩

set_option maxRecDepth 100000 in
theorem over : Rows.replayRightRow.holds Try.pinned (OpenSpec.ofChange Rows.replayRightSpec) :=
  OpenClaim.holds_of_wide 5 Try.f5 rfl rfl rfl rfl rfl rfl rfl ⟨rfl, rfl, rfl, rfl, rfl⟩ rfl rfl rfl rfl rfl (by kernel_rfl) Try.func5 (by kernel_rfl)
    (of_decide_eq_true (by kernel_rfl)) (by unfold Func.isWrapper; first | (rw [if_pos (by decide +kernel)]; kernel_rfl) | (rw [if_neg (by decide +kernel)]; exact ⟨rfl, rfl⟩))
    (fun os started H enc _ => lifted os started H enc)

theorem proved : Rows.ReplayRightSaid :=
  over
#print axioms proved
end Go.Proofs.Ytgcpkgogjcgfbaa.LReplayRight
