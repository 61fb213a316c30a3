/- The statement ObjectFields is proved for every input, from contracts of the functions that it calls; no condition is added. -/
import Derived.Test.YtmdejmdfohgpoaaOb12
namespace Go.Proofs.Ytmdejmdfohgpoaa.LObjectFields
open Go.Joins Go.ChangeShapes Go.WideShapes Go.ChangeAt Go.RowKit Go.Deep
set_option linter.unusedVariables false
set_option linter.unusedSimpArgs false

set_option maxRecDepth 100000 in
set_option maxHeartbeats 4000000 in
theorem walk_no (NM : Int) (AM0 AM1 : Option Addr) (nM0 nM1 cM0 cM1 : Nat) (xsM ysM : List Int) (a : Int) (i : Int) (v : Int) (k : Int) (hfew : few NM nM0 nM1 = false) (w : World) :
    Calls Try.prog 6 #[.agg #[.int .i64 NM, .slice AM0 nM0 cM0, .slice AM1 nM1 cM1, .int .u64 a, .int .i64 i, .int .u64 v, .int .i64 k]] w (fun e w' => e = .returned (.bool true) ∧ Up w w') := by
  have hf := fun w => few_any NM AM0 AM1 nM0 nM1 cM0 cM1 w
  rw [hfew] at hf
  have hf := Lib.hid hf
  clear hfew
  go_enter Try.func6, Try.ntmps6
  go_wp2_with (fail)
  refine (shown_any _).mono ?_
  rintro e w1 ⟨rfl, h1⟩
  have M1 : Blk w1 (w.heap.size + 1) 25 #[.int .i64 NM, .slice AM0 nM0 cM0, .slice AM1 nM1 cM1] := ((Blk.new' _ (by simp) _ _)).up h1
  have U1 : Up w w1 := ((((Up.refl w).alloc _).alloc _)).trans h1
  clear h1
  have M1c := M1.cell
  have M1l := M1.lt
  go_wp2_with (fail)
  refine (hf.out _).mono ?_
  rintro e w2 ⟨rfl, h2⟩
  have M2 := M1.up h2
  have U2 : Up w w2 := U1.trans h2
  clear h2 M1 M1c M1l U1
  have M2c := M2.cell
  have M2l := M2.lt
  go_wp2
  go_ret
  exact ⟨rfl, U2⟩

set_option maxRecDepth 100000 in
set_option maxHeartbeats 8000000 in
theorem walk_no2 (m : Me) (P Q : Addr) (c d : Nat) (a : Int) (i : Int) (v : Int) (k : Int) (w : World) (hm : Sits w m P Q c d) (hn : m.n ≤ 200) (hwf : m.wf) (ha : U64 a) (hi : I64 i) (hv : U64 v) (hk : I64 k) (hp : ¬ m.fok a i) :
    Calls Try.prog 6 #[.agg #[.int .i64 m.n, .slice (some P) m.n c, .slice (some Q) m.n d, .int .u64 a, .int .i64 i, .int .u64 v, .int .i64 k]] w (fun e w' => e = .returned (.bool true) ∧ Up w w') := by
  have hfew : few m.n m.n m.n = true := by unfold few rt; simp; have := hm.1.1; omega
  have hf := fun w => few_any m.n (some P) (some Q) m.n m.n c d w
  rw [hfew] at hf
  have hf := Lib.hid hf
  have hok := hm.1
  have HM := Lib.hid hm
  clear hfew hm
  have h1 := fun (W : World) (hS : Sits W m P Q c d) => set_any m a i v P Q c d W hS ha hwf
  rw [show m.setm a i v = m from if_neg hp] at h1
  have h1 := Lib.hid h1
  have hb : (m.gete a i != 0) = true := bne_iff_ne.mpr (fun q => hp (gete_0.1 q))
  generalize m.gete a i = z at h1 hb
  clear hwf ha hi hv hk hn hok hp
  go_enter Try.func6, Try.ntmps6
  go_wp2_with (fail)
  refine (shown_any _).mono ?_
  rintro e w1 ⟨rfl, h1⟩
  have M1 : Blk w1 (w.heap.size + 1) 25 #[.int .i64 m.n, .slice (some P) m.n c, .slice (some Q) m.n d] := ((Blk.new' _ (by simp) _ _)).up h1
  have U1 : Up w w1 := ((((Up.refl w).alloc _).alloc _)).trans h1
  clear h1
  have M1c := M1.cell
  have M1l := M1.lt
  go_wp2_with (fail)
  refine (hf.out _).mono ?_
  rintro e w2 ⟨rfl, h2⟩
  have M2 := M1.up h2
  have U2 : Up w w2 := U1.trans h2
  clear h2 M1 M1c M1l U1
  have M2c := M2.cell
  have M2l := M2.lt
  go_wp2_with (fail)
  refine (h1.out _ (HM.out.up U2)).mono ?_
  rintro e w3 ⟨PA, QA, cA, dA, rfl, sA3, h3⟩
  have M3 := M2.up h3
  have U3 : Up w w3 := U2.trans h3
  clear h3 M2 M2c M2l U2
  have M3c := M3.cell
  have M3l := M3.lt
  go_wp2
  go_ret
  exact ⟨rfl, (U3.alloc _)⟩

set_option maxRecDepth 100000 in
set_option maxHeartbeats 8000000 in
theorem walk_same (m : Me) (P Q : Addr) (c d : Nat) (a : Int) (i : Int) (v : Int) (w : World) (hm : Sits w m P Q c d) (hn : m.n ≤ 200) (hwf : m.wf) (ha : U64 a) (hi : I64 i) (hv : U64 v) (hp : m.fok a i) :
    Calls Try.prog 6 #[.agg #[.int .i64 m.n, .slice (some P) m.n c, .slice (some Q) m.n d, .int .u64 a, .int .i64 i, .int .u64 v, .int .i64 i]] w (fun e w' => e = .returned (.bool true) ∧ Up w w') := by
  have hfew : few m.n m.n m.n = true := by unfold few rt; simp; have := hm.1.1; omega
  have hf := fun w => few_any m.n (some P) (some Q) m.n m.n c d w
  rw [hfew] at hf
  have hf := Lib.hid hf
  have hok := hm.1
  have HM := Lib.hid hm
  clear hfew hm
  have hoff := fok_off hok.2.1 hp
  have hKn := set_n m a i v
  have hKw := set_wf (a := a) (i := i) hwf hv
  have k0 := set_ld (v := v) hp a (by omega)
  have k1 := set_ld (v := v) hp (a + 1) (by omega)
  have k2 := set_got (v := v) hok hp
  have k3 := fun b hb => set_ld (v := v) hp b hb
  have h1 := fun (W : World) (hS : Sits W m P Q c d) => set_any m a i v P Q c d W hS ha hwf
  rw [gete_0.2 hp] at h1
  have h1 := Lib.hid h1
  generalize m.setm a i v = K at hKn hKw k0 k1 k2 k3 h1
  have pk := (same_fok hKn k0 i).2 hp
  have q0 := ate_0.2 (kne_0.1 hp.1).1
  obtain ⟨q1, q2, q3⟩ := same_at hKn k0
  have h2 := Lib.hid (fun (W : World) (hS : Sits W m P Q c d) => show Calls Try.prog 14 #[.agg #[.int .i64 m.n, .slice (some P) m.n c, .slice (some Q) m.n d], .int .u64 a] W (fun e w' => e = .returned (.tuple #[hdv (m.att a) (m.atl a) (m.atm a), .int .i64 0]) ∧ Up W w') from by
    have h := at_any m a P Q c d W hS ha hwf
    rw [q0] at h
    exact h)
  have h3 := Lib.hid (fun (W : World) (P Q : Addr) (c d : Nat) (hS : Sits W K P Q c d) => show Calls Try.prog 14 #[.agg #[.int .i64 K.n, .slice (some P) K.n c, .slice (some Q) K.n d], .int .u64 a] W (fun e w' => e = .returned (.tuple #[hdv (m.att a) (m.atl a) (m.atm a), .int .i64 0]) ∧ Up W w') from by
    have h := at_any K a P Q c d W hS ha hKw
    rw [q1, q2, q3, same_ate hKn k0, q0] at h
    exact h)
  have h4 := Lib.hid (fun (W : World) (hS : Sits W m P Q c d) => show Calls Try.prog 21 #[.agg #[.int .i64 m.n, .slice (some P) m.n c, .slice (some Q) m.n d], .int .u64 a] W (fun e w' => e = .returned (.tuple #[.int .u64 (m.twv a), .int .i64 (m.kne a)]) ∧ Up W w') from twin_any m a P Q c d W hS ha hwf)
  have h5 := Lib.hid (fun (W : World) (P Q : Addr) (c d : Nat) (hS : Sits W K P Q c d) => show Calls Try.prog 21 #[.agg #[.int .i64 K.n, .slice (some P) K.n c, .slice (some Q) K.n d], .int .u64 a] W (fun e w' => e = .returned (.tuple #[.int .u64 (m.twv a), .int .i64 (m.kne a)]) ∧ Up W w') from by
    have h := twin_any K a P Q c d W hS ha hKw
    rw [same_twv hKn k0 k1, same_kne hKn k0] at h
    exact h)
  have h6 := Lib.hid (fun (W : World) (hS : Sits W m P Q c d) => show Calls Try.prog 16 #[.agg #[.int .i64 m.n, .slice (some P) m.n c, .slice (some Q) m.n d], .int .u64 a, .int .i64 i] W (fun e w' => e = .returned (.tuple #[.int .u64 (m.getv a i), .bool (m.getb a i), .int .i64 0]) ∧ Up W w') from by
    have h := get_any m a i P Q c d W hS ha hwf
    rw [gete_0.2 hp] at h
    exact h)
  have h7 := Lib.hid (fun (W : World) (P Q : Addr) (c d : Nat) (hS : Sits W K P Q c d) => show Calls Try.prog 16 #[.agg #[.int .i64 K.n, .slice (some P) K.n c, .slice (some Q) K.n d], .int .u64 a, .int .i64 i] W (fun e w' => e = .returned (.tuple #[.int .u64 v, .bool (m.getb a i), .int .i64 0]) ∧ Up W w') from by
    have h := get_any K a i P Q c d W hS ha hKw
    rw [show K.getv a i = v from (if_pos pk).trans k2, same_getb hKn k0 i, gete_0.2 pk] at h
    exact h)
  have h8 := h7
  generalize m.getv a i = g1 at h6
  generalize m.getb a i = gb at h6 h7 h8
  generalize m.twv a = tv at h4 h5
  generalize m.kne a = kz at h4 h5
  clear q0 q1 q2 q3 pk
  generalize m.att a = xt at h2 h3
  generalize m.atl a = xl at h2 h3 hoff
  generalize m.atm a = xm at h2 h3
  have hE : ∀ w, (binOp .eql 28 (.agg #[.int .i64 xt, .int .i64 xl, .int .u64 xm]) (.agg #[.int .i64 xt, .int .i64 xl, .int .u64 xm])).run Try.prog w = .ok (.bool true) w := fun w => by rw [eq_head, hsame_self]
  clear hwf ha hi hv hn hok hp hoff hKn hKw k0 k1 k2 k3
  go_enter Try.func6, Try.ntmps6
  go_wp2_with (fail)
  refine (shown_any _).mono ?_
  rintro e w1 ⟨rfl, h1⟩
  have M1 : Blk w1 (w.heap.size + 1) 25 #[.int .i64 m.n, .slice (some P) m.n c, .slice (some Q) m.n d] := ((Blk.new' _ (by simp) _ _)).up h1
  have U1 : Up w w1 := ((((Up.refl w).alloc _).alloc _)).trans h1
  clear h1
  have M1c := M1.cell
  have M1l := M1.lt
  go_wp2_with (fail)
  refine (hf.out _).mono ?_
  rintro e w2 ⟨rfl, h2⟩
  have M2 := M1.up h2
  have U2 : Up w w2 := U1.trans h2
  clear h2 M1 M1c M1l U1
  have M2c := M2.cell
  have M2l := M2.lt
  go_wp2_with (fail)
  refine (h1.out _ (HM.out.up U2)).mono ?_
  rintro e w3 ⟨PA, QA, cA, dA, rfl, sA3, h3⟩
  have M3 := M2.up h3
  have U3 : Up w w3 := U2.trans h3
  clear h3 M2 M2c M2l U2
  have M3c := M3.cell
  have M3l := M3.lt
  go_wp2_with (fail)
  refine (h2.out _ (HM.out.up (U3.alloc _))).mono ?_
  rintro e w4 ⟨rfl, h4⟩
  have M4 := (M3.alloc _).up h4
  have A4 := (Blk.new w3 25 #[.int .i64 K.n, .slice (some PA) K.n cA, .slice (some QA) K.n dA]).up h4
  have U4 : Up w w4 := (U3.alloc _).trans h4
  have sA4 := (sA3.up ((Up.refl _).alloc _)).up h4
  clear h4 M3 M3c M3l U3 sA3
  have M4c := M4.cell
  have M4l := M4.lt
  have A4c := A4.cell
  have A4l := A4.lt
  go_wp2_with (fail)
  refine (h3.out _ _ _ _ _ (sA4.up ((Up.refl _).alloc _))).mono ?_
  rintro e w5 ⟨rfl, h5⟩
  have M5 := (M4.alloc _).up h5
  have A5 := (A4.alloc _).up h5
  have X5 := (Blk.new w4 28 #[.int .i64 xt, .int .i64 xl, .int .u64 xm]).up h5
  have U5 : Up w w5 := (U4.alloc _).trans h5
  have sA5 := (sA4.up ((Up.refl _).alloc _)).up h5
  clear h5 M4 M4c M4l A4 A4c A4l U4 sA4
  have M5c := M5.cell
  have M5l := M5.lt
  have A5c := A5.cell
  have A5l := A5.lt
  have X5c := X5.cell
  have X5l := X5.lt
  go_wp2_with (fail)
  refine (h4.out _ (HM.out.up (U5.alloc _))).mono ?_
  rintro e w6 ⟨rfl, h6⟩
  have M6 := (M5.alloc _).up h6
  have A6 := (A5.alloc _).up h6
  have X6 := (X5.alloc _).up h6
  have Y6 := (Blk.new w5 28 #[.int .i64 xt, .int .i64 xl, .int .u64 xm]).up h6
  have U6 : Up w w6 := (U5.alloc _).trans h6
  have sA6 := (sA5.up ((Up.refl _).alloc _)).up h6
  clear h6 M5 M5c M5l A5 A5c A5l X5 X5c X5l U5 sA5
  have M6c := M6.cell
  have M6l := M6.lt
  have A6c := A6.cell
  have A6l := A6.lt
  have X6c := X6.cell
  have X6l := X6.lt
  have Y6c := Y6.cell
  have Y6l := Y6.lt
  go_wp2_with (fail)
  refine (h5.out _ _ _ _ _ sA6).mono ?_
  rintro e w7 ⟨rfl, h7⟩
  have M7 := M6.up h7
  have A7 := A6.up h7
  have X7 := X6.up h7
  have Y7 := Y6.up h7
  have U7 : Up w w7 := U6.trans h7
  have sA7 := sA6.up h7
  clear h7 M6 M6c M6l A6 A6c A6l X6 X6c X6l Y6 Y6c Y6l U6 sA6
  have M7c := M7.cell
  have M7l := M7.lt
  have A7c := A7.cell
  have A7l := A7.lt
  have X7c := X7.cell
  have X7l := X7.lt
  have Y7c := Y7.cell
  have Y7l := Y7.lt
  go_wp2_with (fail)
  refine (h6.out _ (HM.out.up U7)).mono ?_
  rintro e w8 ⟨rfl, h8⟩
  have M8 := M7.up h8
  have A8 := A7.up h8
  have X8 := X7.up h8
  have Y8 := Y7.up h8
  have U8 : Up w w8 := U7.trans h8
  have sA8 := sA7.up h8
  clear h8 M7 M7c M7l A7 A7c A7l X7 X7c X7l Y7 Y7c Y7l U7 sA7
  have M8c := M8.cell
  have M8l := M8.lt
  have A8c := A8.cell
  have A8l := A8.lt
  have X8c := X8.cell
  have X8l := X8.lt
  have Y8c := Y8.cell
  have Y8l := Y8.lt
  go_wp2_with (fail)
  refine (h7.out _ _ _ _ _ sA8).mono ?_
  rintro e w9 ⟨rfl, h9⟩
  have M9 := M8.up h9
  have A9 := A8.up h9
  have X9 := X8.up h9
  have Y9 := Y8.up h9
  have U9 : Up w w9 := U8.trans h9
  have sA9 := sA8.up h9
  clear h9 M8 M8c M8l A8 A8c A8l X8 X8c X8l Y8 Y8c Y8l U8 sA8
  have M9c := M9.cell
  have M9l := M9.lt
  have A9c := A9.cell
  have A9l := A9.lt
  have X9c := X9.cell
  have X9l := X9.lt
  have Y9c := Y9.cell
  have Y9l := Y9.lt
  go_wp2_with (fail)
  refine (h8.out _ _ _ _ _ sA9).mono ?_
  rintro e w10 ⟨rfl, h10⟩
  have M10 := M9.up h10
  have A10 := A9.up h10
  have X10 := X9.up h10
  have Y10 := Y9.up h10
  have U10 : Up w w10 := U9.trans h10
  have sA10 := sA9.up h10
  clear h10 M9 M9c M9l A9 A9c A9l X9 X9c X9l Y9 Y9c Y9l U9 sA9
  have M10c := M10.cell
  have M10l := M10.lt
  have A10c := A10.cell
  have A10l := A10.lt
  have X10c := X10.cell
  have X10l := X10.lt
  have Y10c := Y10.cell
  have Y10l := Y10.lt
  go_wp2
  go_ret
  exact ⟨rfl, U10⟩

set_option maxRecDepth 100000 in
set_option maxHeartbeats 8000000 in
theorem walk_other (m : Me) (P Q : Addr) (c d : Nat) (a : Int) (i : Int) (v : Int) (k : Int) (w : World) (hm : Sits w m P Q c d) (hn : m.n ≤ 200) (hwf : m.wf) (ha : U64 a) (hi : I64 i) (hv : U64 v) (hk : I64 k) (hp : m.fok a i) (hne : k ≠ i) :
    Calls Try.prog 6 #[.agg #[.int .i64 m.n, .slice (some P) m.n c, .slice (some Q) m.n d, .int .u64 a, .int .i64 i, .int .u64 v, .int .i64 k]] w (fun e w' => e = .returned (.bool true) ∧ Up w w') := by
  have hfew : few m.n m.n m.n = true := by unfold few rt; simp; have := hm.1.1; omega
  have hf := fun w => few_any m.n (some P) (some Q) m.n m.n c d w
  rw [hfew] at hf
  have hf := Lib.hid hf
  have hok := hm.1
  have HM := Lib.hid hm
  clear hfew hm
  have hoff := fok_off hok.2.1 hp
  have hKn := set_n m a i v
  have hKw := set_wf (a := a) (i := i) hwf hv
  have k0 := set_ld (v := v) hp a (by omega)
  have k1 := set_ld (v := v) hp (a + 1) (by omega)
  have k2 := set_got (v := v) hok hp
  have k3 := fun b hb => set_ld (v := v) hp b hb
  have h1 := fun (W : World) (hS : Sits W m P Q c d) => set_any m a i v P Q c d W hS ha hwf
  rw [gete_0.2 hp] at h1
  have h1 := Lib.hid h1
  generalize m.setm a i v = K at hKn hKw k0 k1 k2 k3 h1
  have pk := (same_fok hKn k0 i).2 hp
  have q0 := ate_0.2 (kne_0.1 hp.1).1
  obtain ⟨q1, q2, q3⟩ := same_at hKn k0
  have h2 := Lib.hid (fun (W : World) (hS : Sits W m P Q c d) => show Calls Try.prog 14 #[.agg #[.int .i64 m.n, .slice (some P) m.n c, .slice (some Q) m.n d], .int .u64 a] W (fun e w' => e = .returned (.tuple #[hdv (m.att a) (m.atl a) (m.atm a), .int .i64 0]) ∧ Up W w') from by
    have h := at_any m a P Q c d W hS ha hwf
    rw [q0] at h
    exact h)
  have h3 := Lib.hid (fun (W : World) (P Q : Addr) (c d : Nat) (hS : Sits W K P Q c d) => show Calls Try.prog 14 #[.agg #[.int .i64 K.n, .slice (some P) K.n c, .slice (some Q) K.n d], .int .u64 a] W (fun e w' => e = .returned (.tuple #[hdv (m.att a) (m.atl a) (m.atm a), .int .i64 0]) ∧ Up W w') from by
    have h := at_any K a P Q c d W hS ha hKw
    rw [q1, q2, q3, same_ate hKn k0, q0] at h
    exact h)
  have h4 := Lib.hid (fun (W : World) (hS : Sits W m P Q c d) => show Calls Try.prog 21 #[.agg #[.int .i64 m.n, .slice (some P) m.n c, .slice (some Q) m.n d], .int .u64 a] W (fun e w' => e = .returned (.tuple #[.int .u64 (m.twv a), .int .i64 (m.kne a)]) ∧ Up W w') from twin_any m a P Q c d W hS ha hwf)
  have h5 := Lib.hid (fun (W : World) (P Q : Addr) (c d : Nat) (hS : Sits W K P Q c d) => show Calls Try.prog 21 #[.agg #[.int .i64 K.n, .slice (some P) K.n c, .slice (some Q) K.n d], .int .u64 a] W (fun e w' => e = .returned (.tuple #[.int .u64 (m.twv a), .int .i64 (m.kne a)]) ∧ Up W w') from by
    have h := twin_any K a P Q c d W hS ha hKw
    rw [same_twv hKn k0 k1, same_kne hKn k0] at h
    exact h)
  have h6 := Lib.hid (fun (W : World) (hS : Sits W m P Q c d) => show Calls Try.prog 16 #[.agg #[.int .i64 m.n, .slice (some P) m.n c, .slice (some Q) m.n d], .int .u64 a, .int .i64 k] W (fun e w' => e = .returned (.tuple #[.int .u64 (m.getv a k), .bool (m.getb a k), .int .i64 (m.gete a k)]) ∧ Up W w') from get_any m a k P Q c d W hS ha hwf)
  have h7 := Lib.hid (fun (W : World) (P Q : Addr) (c d : Nat) (hS : Sits W K P Q c d) => show Calls Try.prog 16 #[.agg #[.int .i64 K.n, .slice (some P) K.n c, .slice (some Q) K.n d], .int .u64 a, .int .i64 k] W (fun e w' => e = .returned (.tuple #[.int .u64 (m.getv a k), .bool (m.getb a k), .int .i64 (m.gete a k)]) ∧ Up W w') from by
    have h := get_any K a k P Q c d W hS ha hKw
    rw [same_getv hKn k0 k (fun _ => k3 _ (by omega)), same_getb hKn k0 k, same_gete hKn k0 k] at h
    exact h)
  have h8 := Lib.hid (fun (W : World) (P Q : Addr) (c d : Nat) (hS : Sits W K P Q c d) => show Calls Try.prog 16 #[.agg #[.int .i64 K.n, .slice (some P) K.n c, .slice (some Q) K.n d], .int .u64 a, .int .i64 i] W (fun e w' => e = .returned (.tuple #[.int .u64 v, .bool (m.getb a i), .int .i64 0]) ∧ Up W w') from by
    have h := get_any K a i P Q c d W hS ha hKw
    rw [show K.getv a i = v from (if_pos pk).trans k2, same_getb hKn k0 i, gete_0.2 pk] at h
    exact h)
  generalize m.getb a i = gb2 at h8
  generalize m.getv a k = g1 at h6 h7
  generalize m.getb a k = gb at h6 h7
  generalize m.gete a k = gz at h6 h7
  have hki : (k == i) = false := beq_eq_false_iff_ne.mpr hne
  generalize m.twv a = tv at h4 h5
  generalize m.kne a = kz at h4 h5
  clear q0 q1 q2 q3 pk
  generalize m.att a = xt at h2 h3
  generalize m.atl a = xl at h2 h3 hoff
  generalize m.atm a = xm at h2 h3
  have hE : ∀ w, (binOp .eql 28 (.agg #[.int .i64 xt, .int .i64 xl, .int .u64 xm]) (.agg #[.int .i64 xt, .int .i64 xl, .int .u64 xm])).run Try.prog w = .ok (.bool true) w := fun w => by rw [eq_head, hsame_self]
  clear hwf ha hi hv hn hok hp hoff hKn hKw k0 k1 k2 k3 hk hne
  go_enter Try.func6, Try.ntmps6
  go_wp2_with (fail)
  refine (shown_any _).mono ?_
  rintro e w1 ⟨rfl, h1⟩
  have M1 : Blk w1 (w.heap.size + 1) 25 #[.int .i64 m.n, .slice (some P) m.n c, .slice (some Q) m.n d] := ((Blk.new' _ (by simp) _ _)).up h1
  have U1 : Up w w1 := ((((Up.refl w).alloc _).alloc _)).trans h1
  clear h1
  have M1c := M1.cell
  have M1l := M1.lt
  go_wp2_with (fail)
  refine (hf.out _).mono ?_
  rintro e w2 ⟨rfl, h2⟩
  have M2 := M1.up h2
  have U2 : Up w w2 := U1.trans h2
  clear h2 M1 M1c M1l U1
  have M2c := M2.cell
  have M2l := M2.lt
  go_wp2_with (fail)
  refine (h1.out _ (HM.out.up U2)).mono ?_
  rintro e w3 ⟨PA, QA, cA, dA, rfl, sA3, h3⟩
  have M3 := M2.up h3
  have U3 : Up w w3 := U2.trans h3
  clear h3 M2 M2c M2l U2
  have M3c := M3.cell
  have M3l := M3.lt
  go_wp2_with (fail)
  refine (h2.out _ (HM.out.up (U3.alloc _))).mono ?_
  rintro e w4 ⟨rfl, h4⟩
  have M4 := (M3.alloc _).up h4
  have A4 := (Blk.new w3 25 #[.int .i64 K.n, .slice (some PA) K.n cA, .slice (some QA) K.n dA]).up h4
  have U4 : Up w w4 := (U3.alloc _).trans h4
  have sA4 := (sA3.up ((Up.refl _).alloc _)).up h4
  clear h4 M3 M3c M3l U3 sA3
  have M4c := M4.cell
  have M4l := M4.lt
  have A4c := A4.cell
  have A4l := A4.lt
  go_wp2_with (fail)
  refine (h3.out _ _ _ _ _ (sA4.up ((Up.refl _).alloc _))).mono ?_
  rintro e w5 ⟨rfl, h5⟩
  have M5 := (M4.alloc _).up h5
  have A5 := (A4.alloc _).up h5
  have X5 := (Blk.new w4 28 #[.int .i64 xt, .int .i64 xl, .int .u64 xm]).up h5
  have U5 : Up w w5 := (U4.alloc _).trans h5
  have sA5 := (sA4.up ((Up.refl _).alloc _)).up h5
  clear h5 M4 M4c M4l A4 A4c A4l U4 sA4
  have M5c := M5.cell
  have M5l := M5.lt
  have A5c := A5.cell
  have A5l := A5.lt
  have X5c := X5.cell
  have X5l := X5.lt
  go_wp2_with (fail)
  refine (h4.out _ (HM.out.up (U5.alloc _))).mono ?_
  rintro e w6 ⟨rfl, h6⟩
  have M6 := (M5.alloc _).up h6
  have A6 := (A5.alloc _).up h6
  have X6 := (X5.alloc _).up h6
  have Y6 := (Blk.new w5 28 #[.int .i64 xt, .int .i64 xl, .int .u64 xm]).up h6
  have U6 : Up w w6 := (U5.alloc _).trans h6
  have sA6 := (sA5.up ((Up.refl _).alloc _)).up h6
  clear h6 M5 M5c M5l A5 A5c A5l X5 X5c X5l U5 sA5
  have M6c := M6.cell
  have M6l := M6.lt
  have A6c := A6.cell
  have A6l := A6.lt
  have X6c := X6.cell
  have X6l := X6.lt
  have Y6c := Y6.cell
  have Y6l := Y6.lt
  go_wp2_with (fail)
  refine (h5.out _ _ _ _ _ sA6).mono ?_
  rintro e w7 ⟨rfl, h7⟩
  have M7 := M6.up h7
  have A7 := A6.up h7
  have X7 := X6.up h7
  have Y7 := Y6.up h7
  have U7 : Up w w7 := U6.trans h7
  have sA7 := sA6.up h7
  clear h7 M6 M6c M6l A6 A6c A6l X6 X6c X6l Y6 Y6c Y6l U6 sA6
  have M7c := M7.cell
  have M7l := M7.lt
  have A7c := A7.cell
  have A7l := A7.lt
  have X7c := X7.cell
  have X7l := X7.lt
  have Y7c := Y7.cell
  have Y7l := Y7.lt
  go_wp2_with (fail)
  refine (h6.out _ (HM.out.up U7)).mono ?_
  rintro e w8 ⟨rfl, h8⟩
  have M8 := M7.up h8
  have A8 := A7.up h8
  have X8 := X7.up h8
  have Y8 := Y7.up h8
  have U8 : Up w w8 := U7.trans h8
  have sA8 := sA7.up h8
  clear h8 M7 M7c M7l A7 A7c A7l X7 X7c X7l Y7 Y7c Y7l U7 sA7
  have M8c := M8.cell
  have M8l := M8.lt
  have A8c := A8.cell
  have A8l := A8.lt
  have X8c := X8.cell
  have X8l := X8.lt
  have Y8c := Y8.cell
  have Y8l := Y8.lt
  go_wp2_with (fail)
  refine (h7.out _ _ _ _ _ sA8).mono ?_
  rintro e w9 ⟨rfl, h9⟩
  have M9 := M8.up h9
  have A9 := A8.up h9
  have X9 := X8.up h9
  have Y9 := Y8.up h9
  have U9 : Up w w9 := U8.trans h9
  have sA9 := sA8.up h9
  clear h9 M8 M8c M8l A8 A8c A8l X8 X8c X8l Y8 Y8c Y8l U8 sA8
  have M9c := M9.cell
  have M9l := M9.lt
  have A9c := A9.cell
  have A9l := A9.lt
  have X9c := X9.cell
  have X9l := X9.lt
  have Y9c := Y9.cell
  have Y9l := Y9.lt
  go_wp2_with (fail)
  refine (h8.out _ _ _ _ _ sA9).mono ?_
  rintro e w10 ⟨rfl, h10⟩
  have M10 := M9.up h10
  have A10 := A9.up h10
  have X10 := X9.up h10
  have Y10 := Y9.up h10
  have U10 : Up w w10 := U9.trans h10
  have sA10 := sA9.up h10
  clear h10 M9 M9c M9l A9 A9c A9l X9 X9c X9l Y9 Y9c Y9l U9 sA9
  have M10c := M10.cell
  have M10l := M10.lt
  have A10c := A10.cell
  have A10l := A10.lt
  have X10c := X10.cell
  have X10l := X10.lt
  have Y10c := Y10.cell
  have Y10l := Y10.lt
  go_wp2
  go_ret
  exact ⟨rfl, U10⟩

theorem walk (NM : Int) (AM0 AM1 : Option Addr) (nM0 nM1 cM0 cM1 : Nat) (xsM ysM : List Int) (a : Int) (i : Int) (v : Int) (k : Int) (w : World) (hxM : SlOk w AM0 nM0 cM0 xsM) (hyM : SlOk w AM1 nM1 cM1 ysM) (ha : U64 a) (hi : I64 i) (hv : U64 v) (hk : I64 k) :
    Calls Try.prog 6 #[.agg #[.int .i64 NM, .slice AM0 nM0 cM0, .slice AM1 nM1 cM1, .int .u64 a, .int .i64 i, .int .u64 v, .int .i64 k]] w (fun e w' => e = .returned (.bool true) ∧ Up w w') := by
  cases hfew : few NM nM0 nM1
  · exact walk_no NM AM0 AM1 nM0 nM1 cM0 cM1 xsM ysM a i v k hfew w
  · obtain ⟨rfl, rfl, h16, h200⟩ := few_is hfew
    obtain ⟨P, Q, rfl, rfl, hm⟩ := sits_of hxM hyM h16 (by omega)
    have hwf := sits_wf hxM hyM
    by_cases hp : (⟨nM0, xsM, ysM⟩ : Me).fok a i
    · by_cases hne : k = i
      · subst hne
        exact walk_same ⟨nM0, xsM, ysM⟩ P Q cM0 cM1 a k v w hm h200 hwf ha hi hv hp
      · exact walk_other ⟨nM0, xsM, ysM⟩ P Q cM0 cM1 a i v k w hm h200 hwf ha hi hv hk hp hne
    · exact walk_no2 ⟨nM0, xsM, ysM⟩ P Q cM0 cM1 a i v k w hm h200 hwf ha hi hv hk hp
theorem cells : Try.prog.cellsOf 68 = 7 := by kernel_rfl
set_option maxRecDepth 100000 in
theorem opened {H : Type} {enc : TypeId × Value → H} {w : World} {r : Reach} {b0 : Nat} {vl_ : Value} {d : DataW H} {p : List MemPlace} (hvl_ : Value.okWide Try.prog w r b0 68 vl_) (h_ : DataW.Trod enc Try.prog w 0 (fun _ => true) true 68 vl_ d p) :
    ∃ (NM : Int) (AM0 AM1 : Option Addr) (nM0 nM1 cM0 cM1 : Nat) (xsM ysM : List Int) (a : Int) (i : Int) (v : Int) (k : Int), vl_ = .agg #[.int .i64 NM, .slice AM0 nM0 cM0, .slice AM1 nM1 cM1, .int .u64 a, .int .i64 i, .int .u64 v, .int .i64 k] ∧ I64 NM ∧ SlOk w AM0 nM0 cM0 xsM ∧ SlOk w AM1 nM1 cM1 ysM ∧ U64 a ∧ I64 i ∧ U64 v ∧ I64 k := by
  obtain ⟨⟨l⟩, rfl, hsz⟩ := okWide_struct Try.underlying68 hvl_
  match l, hsz.trans cells with
  | [z0_, z1_, z2_, z3_, z4_, z5_, z6_], _ =>
    obtain ⟨fuel, hf_⟩ := h_
    obtain ⟨ys_, n_, _, _, _, hlen_, hg_⟩ := DataW.trod_struct Try.underlying68 hf_
    have f0_ := hg_ 0 _ rfl
    have f1_ := hg_ 1 _ rfl
    have f2_ := hg_ 2 _ rfl
    have f3_ := hg_ 3 _ rfl
    have f4_ := hg_ 4 _ rfl
    match ys_, hlen_ with
    | [y0_, y1_, y2_, y3_, y4_], _ =>
      change DataW.trod enc Try.prog w 0 (fun _ => true) true n_ 25 (([z0_, z1_, z2_, z3_, z4_, z5_, z6_].drop 0).take (Try.prog.cellsOf 25)) = some y0_ at f0_
      rw [cells_mem] at f0_
      change DataW.trod enc Try.prog w 0 (fun _ => true) true n_ 26 (([z0_, z1_, z2_, z3_, z4_, z5_, z6_].drop 3).take (Try.prog.cellsOf 26)) = some y1_ at f1_
      rw [cells_u64] at f1_
      change DataW.trod enc Try.prog w 0 (fun _ => true) true n_ 3 (([z0_, z1_, z2_, z3_, z4_, z5_, z6_].drop 4).take (Try.prog.cellsOf 3)) = some y2_ at f2_
      rw [cells_int] at f2_
      change DataW.trod enc Try.prog w 0 (fun _ => true) true n_ 26 (([z0_, z1_, z2_, z3_, z4_, z5_, z6_].drop 5).take (Try.prog.cellsOf 26)) = some y3_ at f3_
      rw [cells_u64] at f3_
      change DataW.trod enc Try.prog w 0 (fun _ => true) true n_ 3 (([z0_, z1_, z2_, z3_, z4_, z5_, z6_].drop 6).take (Try.prog.cellsOf 3)) = some y4_ at f4_
      rw [cells_int] at f4_
      obtain ⟨NM, AM0, AM1, nM0, nM1, cM0, cM1, xsM, ysM, rfl, rfl, rfl, hNM, hxM, hyM⟩ := mem_open (v0 := z0_) (v1 := z1_) (v2 := z2_) f0_
      obtain ⟨a, rfl, ha⟩ := u64_open (v := z3_) f1_
      obtain ⟨i, rfl, hi⟩ := int_open (v := z4_) f2_
      obtain ⟨v, rfl, hv⟩ := u64_open (v := z5_) f3_
      obtain ⟨k, rfl, hk⟩ := int_open (v := z6_) f4_
      exact ⟨NM, AM0, AM1, nM0, nM1, cM0, cM1, xsM, ysM, a, i, v, k, rfl, hNM, hxM, hyM, ha, hi, hv, hk⟩

theorem own : ownKnob Try.prog.godebug = none := by kernel_rfl
set_option maxRecDepth 100000 in
theorem lifted (os : Os) (started : os.Started) (H : Type) (enc : TypeId × Value → H) :
    ReturnsInHanded {} Try.checked os 6 .any (Rows.objectFieldsSpec.pre6 enc Try.prog Try.f6 Rows.objectFieldsRow.domain false) (Rows.objectFieldsSpec.post enc Try.prog Try.f6 false true false false) := by
  refine returnsInHanded_of_change (C := Try.checked) own started (by kernel_rfl) Try.func6
    (ChangeSpec.witness6 (enc := enc) (C := Try.checked) false ⟨#[], #[.agg #[.int .i64 0, .slice none 0 0, .slice none 0 0, .int .u64 0, .int .i64 0, .int .u64 0, .int .i64 0]], []⟩ 8 (by kernel_rfl) (by kernel_rfl) (by kernel_rfl) (by kernel_rfl)) ?_
  intro W base args ds gs before hval0 hW hcnd _
  have hval : ∀ (j : Nat) t v, Try.f6.params[j]? = some t → args[j]? = some v → Value.okWide Try.prog W .any base t v := hval0
  have hW' := hW
  obtain ⟨p, q, hA0, hV, rfl, hfz, hnd⟩ := hW
  have hA : DataW.TrodAll enc Try.prog W 0 (fun _ => true) true Try.f6.params.toList args.toList ds p := hA0
  rw [Try.params6] at hA hval
  obtain ⟨v0, vs0, d0, ds0, p0, q0, hargs, rfl, rfl, h0, r0⟩ := trodAll_cons hA
  obtain ⟨rfl, rfl, rfl⟩ := trodAll_nil r0
  obtain rfl : args = #[v0] := by cases args; simp_all
  obtain ⟨rfl, rfl⟩ := trodVars_none hV
  have h0k := h0
  obtain ⟨NM, AM0, AM1, nM0, nM1, cM0, cM1, xsM, ysM, a, i, v, k, rfl, hNM, hxM, hyM, ha, hi, hv, hk⟩ := opened (hval 0 68 v0 rfl rfl) h0
  clear hA0 hval0
  simp only [List.append_nil] at hW'
  refine (walk NM AM0 AM1 nM0 nM1 cM0 cM1 xsM ysM a i v k W hxM hyM ha hi hv hk).mono fun e W' ⟨he, hg⟩ => ?_
  subst he
  exact ⟨_, rfl, post_below (pa := p0) (pv := []) hW' (fun _ _ _ => (trodAll_cons_mk (shut_bool Try.underlying4 _) trodAll_mk0))
    (fun sp hsp => by
      have t := trodAll_cons_mk (trod_keeps (sp := sp) (by kernel_rfl) (of_decide_eq_true (by kernel_rfl)) h0k hg (fun x hx => hW'.lt x hx) (fun x hx => hsp x hx)) trodAll_mk0
      rw [List.append_nil] at t
      exact t) (fun _ _ => rfl) (by simp)
    hg (ok_one (by kernel_rfl) rfl (okWide_bool_mk Try.underlying4 _))⟩

set_option maxRecDepth 100000 in
theorem over : Rows.objectFieldsRow.holds Try.pinned (OpenSpec.ofChange Rows.objectFieldsSpec) :=
  OpenClaim.holds_of_wide 6 Try.f6 rfl rfl rfl rfl rfl rfl rfl ⟨rfl, rfl, rfl, rfl, rfl⟩ rfl rfl rfl rfl rfl (by kernel_rfl) Try.func6 (by kernel_rfl)
    (of_decide_eq_true (by kernel_rfl)) (by unfold Func.isWrapper; first | (rw [if_pos (by decide +kernel)]; kernel_rfl) | (rw [if_neg (by decide +kernel)]; exact ⟨rfl, rfl⟩))
    (fun os started H enc _ => lifted os started H enc)

theorem proved : Rows.ObjectFieldsSaid :=
  over
#print axioms proved
end Go.Proofs.Ytmdejmdfohgpoaa.LObjectFields
