/- The statement ObjectNew is proved for every input, from contracts of the functions that it calls; no condition is added. -/
import Derived.Test.YtmdejmdfohgpoaaOb12
namespace Go.Proofs.Ytmdejmdfohgpoaa.LObjectNew
open Go.Joins Go.ChangeShapes Go.WideShapes Go.ChangeAt Go.RowKit Go.Deep
set_option linter.unusedVariables false
set_option linter.unusedSimpArgs false

set_option maxRecDepth 100000 in
set_option maxHeartbeats 4000000 in
theorem walk_no (NM : Int) (AM0 AM1 : Option Addr) (nM0 nM1 cM0 cM1 : Nat) (xsM ysM : List Int) (a : Int) (t l mp : Int) (i : Int) (hfew : few NM nM0 nM1 = false) (w : World) :
    Calls Try.prog 5 #[.agg #[.int .i64 NM, .slice AM0 nM0 cM0, .slice AM1 nM1 cM1, .int .u64 a, .int .i64 t, .int .i64 l, .int .u64 mp, .int .i64 i]] w (fun e w' => e = .returned (.bool true) ∧ Up w w') := by
  have hf := fun w => few_any NM AM0 AM1 nM0 nM1 cM0 cM1 w
  rw [hfew] at hf
  have hf := Lib.hid hf
  clear hfew
  go_enter Try.func5, Try.ntmps5
  go_wp2_with (fail)
  refine (shown_any _).mono ?_
  rintro e w1 ⟨rfl, h1⟩
  have M1 : Blk w1 (w.heap.size + 1) 25 #[.int .i64 NM, .slice AM0 nM0 cM0, .slice AM1 nM1 cM1] := (((Blk.new' _ (by simp) _ _).alloc _)).up h1
  have H1 : Blk w1 (w.heap.size + 1 + 1) 28 #[.int .i64 t, .int .i64 l, .int .u64 mp] := ((Blk.new' _ (by simp) _ _)).up h1
  have U1 : Up w w1 := (((((Up.refl w).alloc _).alloc _).alloc _)).trans h1
  clear h1
  have M1c := M1.cell
  have M1l := M1.lt
  have H1c := H1.cell
  have H1l := H1.lt
  go_wp2_with (fail)
  refine (hf.out _).mono ?_
  rintro e w2 ⟨rfl, h2⟩
  have M2 := M1.up h2
  have H2 := H1.up h2
  have U2 : Up w w2 := U1.trans h2
  clear h2 M1 M1c M1l H1 H1c H1l U1
  have M2c := M2.cell
  have M2l := M2.lt
  have H2c := H2.cell
  have H2l := H2.lt
  go_wp2
  go_ret
  exact ⟨rfl, U2⟩

set_option maxRecDepth 100000 in
set_option maxHeartbeats 8000000 in
theorem walk_no2 (m : Me) (P Q : Addr) (c d : Nat) (a : Int) (t l mp : Int) (i : Int) (w : World) (hm : Sits w m P Q c d) (hn : m.n ≤ 200) (hwf : m.wf) (ha : U64 a) (ht : I64 t) (hl : I64 l) (hmp : U64 mp) (hi : I64 i) (hp : ¬ m.pok a t l mp) :
    Calls Try.prog 5 #[.agg #[.int .i64 m.n, .slice (some P) m.n c, .slice (some Q) m.n d, .int .u64 a, .int .i64 t, .int .i64 l, .int .u64 mp, .int .i64 i]] w (fun e w' => e = .returned (.bool true) ∧ Up w w') := by
  have hfew : few m.n m.n m.n = true := by unfold few rt; simp; have := hm.1.1; omega
  have hf := fun w => few_any m.n (some P) (some Q) m.n m.n c d w
  rw [hfew] at hf
  have hf := Lib.hid hf
  have hok := hm.1
  have HM := Lib.hid hm
  clear hfew hm
  have h1 := fun (W : World) (hS : Sits W m P Q c d) => put_any m a t l mp P Q c d W hS ha hmp.1
  rw [show m.putm a t l mp = m from if_neg hp] at h1
  have h1 := Lib.hid h1
  have hb : (m.pute a t l mp != 0) = true := bne_iff_ne.mpr (fun q => hp (pute_0.1 q))
  generalize m.pute a t l mp = z at h1 hb
  clear hwf ha ht hl hmp hi hn hok hp
  go_enter Try.func5, Try.ntmps5
  go_wp2_with (fail)
  refine (shown_any _).mono ?_
  rintro e w1 ⟨rfl, h1⟩
  have M1 : Blk w1 (w.heap.size + 1) 25 #[.int .i64 m.n, .slice (some P) m.n c, .slice (some Q) m.n d] := (((Blk.new' _ (by simp) _ _).alloc _)).up h1
  have H1 : Blk w1 (w.heap.size + 1 + 1) 28 #[.int .i64 t, .int .i64 l, .int .u64 mp] := ((Blk.new' _ (by simp) _ _)).up h1
  have U1 : Up w w1 := (((((Up.refl w).alloc _).alloc _).alloc _)).trans h1
  clear h1
  have M1c := M1.cell
  have M1l := M1.lt
  have H1c := H1.cell
  have H1l := H1.lt
  go_wp2_with (fail)
  refine (hf.out _).mono ?_
  rintro e w2 ⟨rfl, h2⟩
  have M2 := M1.up h2
  have H2 := H1.up h2
  have U2 : Up w w2 := U1.trans h2
  clear h2 M1 M1c M1l H1 H1c H1l U1
  have M2c := M2.cell
  have M2l := M2.lt
  have H2c := H2.cell
  have H2l := H2.lt
  go_wp2_with (fail)
  refine (h1.out _ (HM.out.up U2)).mono ?_
  rintro e w3 ⟨PA, QA, cA, dA, rfl, sA3, h3⟩
  have M3 := M2.up h3
  have H3 := H2.up h3
  have U3 : Up w w3 := U2.trans h3
  clear h3 M2 M2c M2l H2 H2c H2l U2
  have M3c := M3.cell
  have M3l := M3.lt
  have H3c := H3.cell
  have H3l := H3.lt
  go_wp2
  go_ret
  exact ⟨rfl, (U3.alloc _)⟩

set_option maxRecDepth 100000 in
set_option maxHeartbeats 8000000 in
theorem walk_fl (m : Me) (P Q : Addr) (c d : Nat) (a : Int) (t l mp : Int) (i : Int) (w : World) (hm : Sits w m P Q c d) (hn : m.n ≤ 200) (hwf : m.wf) (ha : U64 a) (ht : I64 t) (hl : I64 l) (hmp : U64 mp) (hi : I64 i) (hp : m.pok a t l mp) (htf : t = 255) :
    Calls Try.prog 5 #[.agg #[.int .i64 m.n, .slice (some P) m.n c, .slice (some Q) m.n d, .int .u64 a, .int .i64 t, .int .i64 l, .int .u64 mp, .int .i64 i]] w (fun e w' => e = .returned (.bool true) ∧ Up w w') := by
  have hfew : few m.n m.n m.n = true := by unfold few rt; simp; have := hm.1.1; omega
  have hf := fun w => few_any m.n (some P) (some Q) m.n m.n c d w
  rw [hfew] at hf
  have hf := Lib.hid hf
  have hok := hm.1
  have HM := Lib.hid hm
  clear hfew hm
  have hKn := put_n m a t l mp
  have hKw := put_wf (a := a) (t := t) (l := l) hmp.1 hwf
  obtain ⟨k1, k2, k3, k4⟩ := put_at hok hmp.1 hp
  have k5 := put_kne hok hmp.1 hp
  have k6 := fun q j h0 h1 => put_zero hok hmp.1 hp q j h0 h1
  have h1 := fun (W : World) (hS : Sits W m P Q c d) => put_any m a t l mp P Q c d W hS ha hmp.1
  rw [pute_0.2 hp] at h1
  have h1 := Lib.hid h1
  generalize m.putm a t l mp = K at hKn hKw k1 k2 k3 k4 k5 k6 h1
  rw [htf, show unl ((255 : Int) != 255) 8 = 8 from rfl] at k5
  have kn : ¬ K.fok a i := fun q => by have := q.1; rw [k5] at this; cases this
  have h2 := Lib.hid (fun (W : World) (P Q : Addr) (c d : Nat) (hS : Sits W K P Q c d) => show Calls Try.prog 14 #[.agg #[.int .i64 K.n, .slice (some P) K.n c, .slice (some Q) K.n d], .int .u64 a] W (fun e w' => e = .returned (.tuple #[.agg #[.int .i64 t, .int .i64 l, .int .u64 mp], .int .i64 0]) ∧ Up W w') from by
    have h := at_any K a P Q c d W hS ha hKw
    rw [k2, k3, k4, ate_0.2 k1] at h
    exact h)
  have h3 := Lib.hid (fun (W : World) (P Q : Addr) (c d : Nat) (hS : Sits W K P Q c d) => show Calls Try.prog 21 #[.agg #[.int .i64 K.n, .slice (some P) K.n c, .slice (some Q) K.n d], .int .u64 a] W (fun e w' => e = .returned (.tuple #[.int .u64 0, .int .i64 8]) ∧ Up W w') from by
    have h := twin_any K a P Q c d W hS ha hKw
    rw [show K.twv a = 0 from if_neg (by rw [k5]; decide), k5] at h
    exact h)
  have h4 := Lib.hid (fun (W : World) (P Q : Addr) (c d : Nat) (hS : Sits W K P Q c d) => show Calls Try.prog 16 #[.agg #[.int .i64 K.n, .slice (some P) K.n c, .slice (some Q) K.n d], .int .u64 a, .int .i64 i] W (fun e w' => e = .returned (.tuple #[.int .u64 0, .bool false, .int .i64 8]) ∧ Up W w') from by
    have h := get_any K a i P Q c d W hS ha hKw
    rw [show K.getv a i = 0 from if_neg kn, show K.getb a i = false from if_neg kn, show K.gete a i = 8 from (if_neg (by rw [k5]; decide)).trans k5] at h
    exact h)
  clear hwf ha hl hmp hi hn hok hp hKn hKw k1 k2 k3 k4 k5 k6 kn ht
  subst htf
  have hE : ∀ w, (binOp .neq 28 (.agg #[.int .i64 255, .int .i64 l, .int .u64 mp]) (.agg #[.int .i64 255, .int .i64 l, .int .u64 mp])).run Try.prog w = .ok (.bool false) w := fun w => by rw [ne_head, hsame_self]; rfl
  go_enter Try.func5, Try.ntmps5
  go_wp2_with (fail)
  refine (shown_any _).mono ?_
  rintro e w1 ⟨rfl, h1⟩
  have M1 : Blk w1 (w.heap.size + 1) 25 #[.int .i64 m.n, .slice (some P) m.n c, .slice (some Q) m.n d] := (((Blk.new' _ (by simp) _ _).alloc _)).up h1
  have H1 : Blk w1 (w.heap.size + 1 + 1) 28 #[.int .i64 255, .int .i64 l, .int .u64 mp] := ((Blk.new' _ (by simp) _ _)).up h1
  have U1 : Up w w1 := (((((Up.refl w).alloc _).alloc _).alloc _)).trans h1
  clear h1
  have M1c := M1.cell
  have M1l := M1.lt
  have H1c := H1.cell
  have H1l := H1.lt
  go_wp2_with (fail)
  refine (hf.out _).mono ?_
  rintro e w2 ⟨rfl, h2⟩
  have M2 := M1.up h2
  have H2 := H1.up h2
  have U2 : Up w w2 := U1.trans h2
  clear h2 M1 M1c M1l H1 H1c H1l U1
  have M2c := M2.cell
  have M2l := M2.lt
  have H2c := H2.cell
  have H2l := H2.lt
  go_wp2_with (fail)
  refine (h1.out _ (HM.out.up U2)).mono ?_
  rintro e w3 ⟨PA, QA, cA, dA, rfl, sA3, h3⟩
  have M3 := M2.up h3
  have H3 := H2.up h3
  have U3 : Up w w3 := U2.trans h3
  clear h3 M2 M2c M2l H2 H2c H2l U2
  have M3c := M3.cell
  have M3l := M3.lt
  have H3c := H3.cell
  have H3l := H3.lt
  go_wp2_with (fail)
  refine (h2.out _ _ _ _ _ (sA3.up ((Up.refl _).alloc _))).mono ?_
  rintro e w4 ⟨rfl, h4⟩
  have M4 := (M3.alloc _).up h4
  have H4 := (H3.alloc _).up h4
  have A4 := (Blk.new w3 25 #[.int .i64 K.n, .slice (some PA) K.n cA, .slice (some QA) K.n dA]).up h4
  have U4 : Up w w4 := (U3.alloc _).trans h4
  have sA4 := (sA3.up ((Up.refl _).alloc _)).up h4
  clear h4 M3 M3c M3l H3 H3c H3l U3 sA3
  have M4c := M4.cell
  have M4l := M4.lt
  have H4c := H4.cell
  have H4l := H4.lt
  have A4c := A4.cell
  have A4l := A4.lt
  go_wp2_with (fail)
  refine (h3.out _ _ _ _ _ (sA4.up ((Up.refl _).alloc _))).mono ?_
  rintro e w5 ⟨rfl, h5⟩
  have M5 := (M4.alloc _).up h5
  have H5 := (H4.alloc _).up h5
  have A5 := (A4.alloc _).up h5
  have X5 := (Blk.new w4 28 #[.int .i64 255, .int .i64 l, .int .u64 mp]).up h5
  have U5 : Up w w5 := (U4.alloc _).trans h5
  have sA5 := (sA4.up ((Up.refl _).alloc _)).up h5
  clear h5 M4 M4c M4l H4 H4c H4l A4 A4c A4l U4 sA4
  have M5c := M5.cell
  have M5l := M5.lt
  have H5c := H5.cell
  have H5l := H5.lt
  have A5c := A5.cell
  have A5l := A5.lt
  have X5c := X5.cell
  have X5l := X5.lt
  go_wp2_with (fail)
  refine (h4.out _ _ _ _ _ sA5).mono ?_
  rintro e w6 ⟨rfl, h6⟩
  have M6 := M5.up h6
  have H6 := H5.up h6
  have A6 := A5.up h6
  have X6 := X5.up h6
  have U6 : Up w w6 := U5.trans h6
  have sA6 := sA5.up h6
  clear h6 M5 M5c M5l H5 H5c H5l A5 A5c A5l X5 X5c X5l U5 sA5
  have M6c := M6.cell
  have M6l := M6.lt
  have H6c := H6.cell
  have H6l := H6.lt
  have A6c := A6.cell
  have A6l := A6.lt
  have X6c := X6.cell
  have X6l := X6.lt
  go_wp2
  go_ret
  exact ⟨rfl, U6⟩

set_option maxRecDepth 100000 in
set_option maxHeartbeats 8000000 in
theorem walk_in (m : Me) (P Q : Addr) (c d : Nat) (a : Int) (t l mp : Int) (i : Int) (w : World) (hm : Sits w m P Q c d) (hn : m.n ≤ 200) (hwf : m.wf) (ha : U64 a) (ht : I64 t) (hl : I64 l) (hmp : U64 mp) (hi : I64 i) (hp : m.pok a t l mp) (htf : t ≠ 255) (i0 : 0 ≤ i) (i1 : i < l) :
    Calls Try.prog 5 #[.agg #[.int .i64 m.n, .slice (some P) m.n c, .slice (some Q) m.n d, .int .u64 a, .int .i64 t, .int .i64 l, .int .u64 mp, .int .i64 i]] w (fun e w' => e = .returned (.bool true) ∧ Up w w') := by
  have hfew : few m.n m.n m.n = true := by unfold few rt; simp; have := hm.1.1; omega
  have hf := fun w => few_any m.n (some P) (some Q) m.n m.n c d w
  rw [hfew] at hf
  have hf := Lib.hid hf
  have hok := hm.1
  have HM := Lib.hid hm
  clear hfew hm
  have hKn := put_n m a t l mp
  have hKw := put_wf (a := a) (t := t) (l := l) hmp.1 hwf
  obtain ⟨k1, k2, k3, k4⟩ := put_at hok hmp.1 hp
  have k5 := put_kne hok hmp.1 hp
  have k6 := fun q j h0 h1 => put_zero hok hmp.1 hp q j h0 h1
  have h1 := fun (W : World) (hS : Sits W m P Q c d) => put_any m a t l mp P Q c d W hS ha hmp.1
  rw [pute_0.2 hp] at h1
  have h1 := Lib.hid h1
  generalize m.putm a t l mp = K at hKn hKw k1 k2 k3 k4 k5 k6 h1
  have k0 : K.kne a = 0 := by rw [k5, show (t != 255) = true from bne_iff_ne.mpr htf]; rfl
  have kn : K.fok a i := ⟨k0, by rw [k3]; exact decide_eq_true ⟨i0, i1⟩⟩
  have kz : K.ld (a + 2 + i) = 0 := by
    have := k6 htf (2 + i) (by omega) (by omega)
    rwa [show a + (2 + i) = a + 2 + i from by omega] at this
  have h2 := Lib.hid (fun (W : World) (P Q : Addr) (c d : Nat) (hS : Sits W K P Q c d) => show Calls Try.prog 14 #[.agg #[.int .i64 K.n, .slice (some P) K.n c, .slice (some Q) K.n d], .int .u64 a] W (fun e w' => e = .returned (.tuple #[.agg #[.int .i64 t, .int .i64 l, .int .u64 mp], .int .i64 0]) ∧ Up W w') from by
    have h := at_any K a P Q c d W hS ha hKw
    rw [k2, k3, k4, ate_0.2 k1] at h
    exact h)
  have h3 := Lib.hid (fun (W : World) (P Q : Addr) (c d : Nat) (hS : Sits W K P Q c d) => show Calls Try.prog 21 #[.agg #[.int .i64 K.n, .slice (some P) K.n c, .slice (some Q) K.n d], .int .u64 a] W (fun e w' => e = .returned (.tuple #[.int .u64 0, .int .i64 0]) ∧ Up W w') from by
    have h := twin_any K a P Q c d W hS ha hKw
    rw [show K.twv a = 0 from (if_pos k0).trans (k6 htf 1 (by omega) (by have := (rte_small hmp.1 hp.1).2.2.1; omega)), k0] at h
    exact h)
  have h4 := Lib.hid (fun (W : World) (P Q : Addr) (c d : Nat) (hS : Sits W K P Q c d) => show Calls Try.prog 16 #[.agg #[.int .i64 K.n, .slice (some P) K.n c, .slice (some Q) K.n d], .int .u64 a, .int .i64 i] W (fun e w' => e = .returned (.tuple #[.int .u64 0, .bool (ptb l mp i), .int .i64 0]) ∧ Up W w') from by
    have h := get_any K a i P Q c d W hS ha hKw
    rw [show K.getv a i = 0 from (if_pos kn).trans kz, show K.getb a i = ptb l mp i from (if_pos kn).trans (by rw [k3, k4]), gete_0.2 kn] at h
    exact h)
  have h5 := Lib.hid (fun w => rptr_any t l mp i hmp.1 hmp.2 (by have := (rte_small hmp.1 hp.1).2.2.2.2.2; omega) w)
  generalize ptb l mp i = pb at h4 h5
  have tb : (t == 255) = false := beq_eq_false_iff_ne.mpr htf
  have hE : ∀ w, (binOp .neq 28 (.agg #[.int .i64 t, .int .i64 l, .int .u64 mp]) (.agg #[.int .i64 t, .int .i64 l, .int .u64 mp])).run Try.prog w = .ok (.bool false) w := fun w => by rw [ne_head, hsame_self]; rfl
  clear hwf ha hl hmp hi hn hok hp hKn hKw k1 k2 k3 k4 k5 k6 kn k0 kz htf ht
  go_enter Try.func5, Try.ntmps5
  go_wp2_with (fail)
  refine (shown_any _).mono ?_
  rintro e w1 ⟨rfl, h1⟩
  have M1 : Blk w1 (w.heap.size + 1) 25 #[.int .i64 m.n, .slice (some P) m.n c, .slice (some Q) m.n d] := (((Blk.new' _ (by simp) _ _).alloc _)).up h1
  have H1 : Blk w1 (w.heap.size + 1 + 1) 28 #[.int .i64 t, .int .i64 l, .int .u64 mp] := ((Blk.new' _ (by simp) _ _)).up h1
  have U1 : Up w w1 := (((((Up.refl w).alloc _).alloc _).alloc _)).trans h1
  clear h1
  have M1c := M1.cell
  have M1l := M1.lt
  have H1c := H1.cell
  have H1l := H1.lt
  go_wp2_with (fail)
  refine (hf.out _).mono ?_
  rintro e w2 ⟨rfl, h2⟩
  have M2 := M1.up h2
  have H2 := H1.up h2
  have U2 : Up w w2 := U1.trans h2
  clear h2 M1 M1c M1l H1 H1c H1l U1
  have M2c := M2.cell
  have M2l := M2.lt
  have H2c := H2.cell
  have H2l := H2.lt
  go_wp2_with (fail)
  refine (h1.out _ (HM.out.up U2)).mono ?_
  rintro e w3 ⟨PA, QA, cA, dA, rfl, sA3, h3⟩
  have M3 := M2.up h3
  have H3 := H2.up h3
  have U3 : Up w w3 := U2.trans h3
  clear h3 M2 M2c M2l H2 H2c H2l U2
  have M3c := M3.cell
  have M3l := M3.lt
  have H3c := H3.cell
  have H3l := H3.lt
  go_wp2_with (fail)
  refine (h2.out _ _ _ _ _ (sA3.up ((Up.refl _).alloc _))).mono ?_
  rintro e w4 ⟨rfl, h4⟩
  have M4 := (M3.alloc _).up h4
  have H4 := (H3.alloc _).up h4
  have A4 := (Blk.new w3 25 #[.int .i64 K.n, .slice (some PA) K.n cA, .slice (some QA) K.n dA]).up h4
  have U4 : Up w w4 := (U3.alloc _).trans h4
  have sA4 := (sA3.up ((Up.refl _).alloc _)).up h4
  clear h4 M3 M3c M3l H3 H3c H3l U3 sA3
  have M4c := M4.cell
  have M4l := M4.lt
  have H4c := H4.cell
  have H4l := H4.lt
  have A4c := A4.cell
  have A4l := A4.lt
  go_wp2_with (fail)
  refine (h3.out _ _ _ _ _ (sA4.up ((Up.refl _).alloc _))).mono ?_
  rintro e w5 ⟨rfl, h5⟩
  have M5 := (M4.alloc _).up h5
  have H5 := (H4.alloc _).up h5
  have A5 := (A4.alloc _).up h5
  have X5 := (Blk.new w4 28 #[.int .i64 t, .int .i64 l, .int .u64 mp]).up h5
  have U5 : Up w w5 := (U4.alloc _).trans h5
  have sA5 := (sA4.up ((Up.refl _).alloc _)).up h5
  clear h5 M4 M4c M4l H4 H4c H4l A4 A4c A4l U4 sA4
  have M5c := M5.cell
  have M5l := M5.lt
  have H5c := H5.cell
  have H5l := H5.lt
  have A5c := A5.cell
  have A5l := A5.lt
  have X5c := X5.cell
  have X5l := X5.lt
  go_wp2_with (fail)
  refine (h4.out _ _ _ _ _ sA5).mono ?_
  rintro e w6 ⟨rfl, h6⟩
  have M6 := M5.up h6
  have H6 := H5.up h6
  have A6 := A5.up h6
  have X6 := X5.up h6
  have U6 : Up w w6 := U5.trans h6
  have sA6 := sA5.up h6
  clear h6 M5 M5c M5l H5 H5c H5l A5 A5c A5l X5 X5c X5l U5 sA5
  have M6c := M6.cell
  have M6l := M6.lt
  have H6c := H6.cell
  have H6l := H6.lt
  have A6c := A6.cell
  have A6l := A6.lt
  have X6c := X6.cell
  have X6l := X6.lt
  go_wp2_with (fail)
  refine (h5.out _).mono ?_
  rintro e w7 ⟨rfl, h7⟩
  have M7 := M6.up h7
  have H7 := H6.up h7
  have A7 := A6.up h7
  have X7 := X6.up h7
  have U7 : Up w w7 := U6.trans h7
  have sA7 := sA6.up h7
  clear h7 M6 M6c M6l H6 H6c H6l A6 A6c A6l X6 X6c X6l U6 sA6
  have M7c := M7.cell
  have M7l := M7.lt
  have H7c := H7.cell
  have H7l := H7.lt
  have A7c := A7.cell
  have A7l := A7.lt
  have X7c := X7.cell
  have X7l := X7.lt
  go_wp2
  go_ret
  exact ⟨rfl, U7⟩

set_option maxRecDepth 100000 in
set_option maxHeartbeats 8000000 in
theorem walk_lo (m : Me) (P Q : Addr) (c d : Nat) (a : Int) (t l mp : Int) (i : Int) (w : World) (hm : Sits w m P Q c d) (hn : m.n ≤ 200) (hwf : m.wf) (ha : U64 a) (ht : I64 t) (hl : I64 l) (hmp : U64 mp) (hi : I64 i) (hp : m.pok a t l mp) (htf : t ≠ 255) (i0 : i < 0) :
    Calls Try.prog 5 #[.agg #[.int .i64 m.n, .slice (some P) m.n c, .slice (some Q) m.n d, .int .u64 a, .int .i64 t, .int .i64 l, .int .u64 mp, .int .i64 i]] w (fun e w' => e = .returned (.bool true) ∧ Up w w') := by
  have hfew : few m.n m.n m.n = true := by unfold few rt; simp; have := hm.1.1; omega
  have hf := fun w => few_any m.n (some P) (some Q) m.n m.n c d w
  rw [hfew] at hf
  have hf := Lib.hid hf
  have hok := hm.1
  have HM := Lib.hid hm
  clear hfew hm
  have hKn := put_n m a t l mp
  have hKw := put_wf (a := a) (t := t) (l := l) hmp.1 hwf
  obtain ⟨k1, k2, k3, k4⟩ := put_at hok hmp.1 hp
  have k5 := put_kne hok hmp.1 hp
  have k6 := fun q j h0 h1 => put_zero hok hmp.1 hp q j h0 h1
  have h1 := fun (W : World) (hS : Sits W m P Q c d) => put_any m a t l mp P Q c d W hS ha hmp.1
  rw [pute_0.2 hp] at h1
  have h1 := Lib.hid h1
  generalize m.putm a t l mp = K at hKn hKw k1 k2 k3 k4 k5 k6 h1
  have k0 : K.kne a = 0 := by rw [k5, show (t != 255) = true from bne_iff_ne.mpr htf]; rfl
  have hh : hasb (K.atl a) i = false := by rw [k3]; exact decide_eq_false (fun q => by omega)
  have kn : ¬ K.fok a i := fun q => by have := q.2; rw [hh] at this; cases this
  have h2 := Lib.hid (fun (W : World) (P Q : Addr) (c d : Nat) (hS : Sits W K P Q c d) => show Calls Try.prog 14 #[.agg #[.int .i64 K.n, .slice (some P) K.n c, .slice (some Q) K.n d], .int .u64 a] W (fun e w' => e = .returned (.tuple #[.agg #[.int .i64 t, .int .i64 l, .int .u64 mp], .int .i64 0]) ∧ Up W w') from by
    have h := at_any K a P Q c d W hS ha hKw
    rw [k2, k3, k4, ate_0.2 k1] at h
    exact h)
  have h3 := Lib.hid (fun (W : World) (P Q : Addr) (c d : Nat) (hS : Sits W K P Q c d) => show Calls Try.prog 21 #[.agg #[.int .i64 K.n, .slice (some P) K.n c, .slice (some Q) K.n d], .int .u64 a] W (fun e w' => e = .returned (.tuple #[.int .u64 0, .int .i64 0]) ∧ Up W w') from by
    have h := twin_any K a P Q c d W hS ha hKw
    rw [show K.twv a = 0 from (if_pos k0).trans (k6 htf 1 (by omega) (by have := (rte_small hmp.1 hp.1).2.2.1; omega)), k0] at h
    exact h)
  have h4 := Lib.hid (fun (W : World) (P Q : Addr) (c d : Nat) (hS : Sits W K P Q c d) => show Calls Try.prog 16 #[.agg #[.int .i64 K.n, .slice (some P) K.n c, .slice (some Q) K.n d], .int .u64 a, .int .i64 i] W (fun e w' => e = .returned (.tuple #[.int .u64 0, .bool false, .int .i64 7]) ∧ Up W w') from by
    have h := get_any K a i P Q c d W hS ha hKw
    rw [show K.getv a i = 0 from if_neg kn, show K.getb a i = false from if_neg kn, show K.gete a i = 7 from (if_pos k0).trans (by rw [hh]; rfl)] at h
    exact h)
  have q0 : decide (0 ≤ i) = false := decide_eq_false (by omega)
  have tb : (t == 255) = false := beq_eq_false_iff_ne.mpr htf
  have hE : ∀ w, (binOp .neq 28 (.agg #[.int .i64 t, .int .i64 l, .int .u64 mp]) (.agg #[.int .i64 t, .int .i64 l, .int .u64 mp])).run Try.prog w = .ok (.bool false) w := fun w => by rw [ne_head, hsame_self]; rfl
  clear hwf ha hl hmp hi hn hok hp hKn hKw k1 k2 k3 k4 k5 k6 kn k0 hh htf ht
  go_enter Try.func5, Try.ntmps5
  go_wp2_with (fail)
  refine (shown_any _).mono ?_
  rintro e w1 ⟨rfl, h1⟩
  have M1 : Blk w1 (w.heap.size + 1) 25 #[.int .i64 m.n, .slice (some P) m.n c, .slice (some Q) m.n d] := (((Blk.new' _ (by simp) _ _).alloc _)).up h1
  have H1 : Blk w1 (w.heap.size + 1 + 1) 28 #[.int .i64 t, .int .i64 l, .int .u64 mp] := ((Blk.new' _ (by simp) _ _)).up h1
  have U1 : Up w w1 := (((((Up.refl w).alloc _).alloc _).alloc _)).trans h1
  clear h1
  have M1c := M1.cell
  have M1l := M1.lt
  have H1c := H1.cell
  have H1l := H1.lt
  go_wp2_with (fail)
  refine (hf.out _).mono ?_
  rintro e w2 ⟨rfl, h2⟩
  have M2 := M1.up h2
  have H2 := H1.up h2
  have U2 : Up w w2 := U1.trans h2
  clear h2 M1 M1c M1l H1 H1c H1l U1
  have M2c := M2.cell
  have M2l := M2.lt
  have H2c := H2.cell
  have H2l := H2.lt
  go_wp2_with (fail)
  refine (h1.out _ (HM.out.up U2)).mono ?_
  rintro e w3 ⟨PA, QA, cA, dA, rfl, sA3, h3⟩
  have M3 := M2.up h3
  have H3 := H2.up h3
  have U3 : Up w w3 := U2.trans h3
  clear h3 M2 M2c M2l H2 H2c H2l U2
  have M3c := M3.cell
  have M3l := M3.lt
  have H3c := H3.cell
  have H3l := H3.lt
  go_wp2_with (fail)
  refine (h2.out _ _ _ _ _ (sA3.up ((Up.refl _).alloc _))).mono ?_
  rintro e w4 ⟨rfl, h4⟩
  have M4 := (M3.alloc _).up h4
  have H4 := (H3.alloc _).up h4
  have A4 := (Blk.new w3 25 #[.int .i64 K.n, .slice (some PA) K.n cA, .slice (some QA) K.n dA]).up h4
  have U4 : Up w w4 := (U3.alloc _).trans h4
  have sA4 := (sA3.up ((Up.refl _).alloc _)).up h4
  clear h4 M3 M3c M3l H3 H3c H3l U3 sA3
  have M4c := M4.cell
  have M4l := M4.lt
  have H4c := H4.cell
  have H4l := H4.lt
  have A4c := A4.cell
  have A4l := A4.lt
  go_wp2_with (fail)
  refine (h3.out _ _ _ _ _ (sA4.up ((Up.refl _).alloc _))).mono ?_
  rintro e w5 ⟨rfl, h5⟩
  have M5 := (M4.alloc _).up h5
  have H5 := (H4.alloc _).up h5
  have A5 := (A4.alloc _).up h5
  have X5 := (Blk.new w4 28 #[.int .i64 t, .int .i64 l, .int .u64 mp]).up h5
  have U5 : Up w w5 := (U4.alloc _).trans h5
  have sA5 := (sA4.up ((Up.refl _).alloc _)).up h5
  clear h5 M4 M4c M4l H4 H4c H4l A4 A4c A4l U4 sA4
  have M5c := M5.cell
  have M5l := M5.lt
  have H5c := H5.cell
  have H5l := H5.lt
  have A5c := A5.cell
  have A5l := A5.lt
  have X5c := X5.cell
  have X5l := X5.lt
  go_wp2_with (fail)
  refine (h4.out _ _ _ _ _ sA5).mono ?_
  rintro e w6 ⟨rfl, h6⟩
  have M6 := M5.up h6
  have H6 := H5.up h6
  have A6 := A5.up h6
  have X6 := X5.up h6
  have U6 : Up w w6 := U5.trans h6
  have sA6 := sA5.up h6
  clear h6 M5 M5c M5l H5 H5c H5l A5 A5c A5l X5 X5c X5l U5 sA5
  have M6c := M6.cell
  have M6l := M6.lt
  have H6c := H6.cell
  have H6l := H6.lt
  have A6c := A6.cell
  have A6l := A6.lt
  have X6c := X6.cell
  have X6l := X6.lt
  go_wp2
  go_ret
  exact ⟨rfl, U6⟩

set_option maxRecDepth 100000 in
set_option maxHeartbeats 8000000 in
theorem walk_hi (m : Me) (P Q : Addr) (c d : Nat) (a : Int) (t l mp : Int) (i : Int) (w : World) (hm : Sits w m P Q c d) (hn : m.n ≤ 200) (hwf : m.wf) (ha : U64 a) (ht : I64 t) (hl : I64 l) (hmp : U64 mp) (hi : I64 i) (hp : m.pok a t l mp) (htf : t ≠ 255) (i0 : 0 ≤ i) (i1 : l ≤ i) :
    Calls Try.prog 5 #[.agg #[.int .i64 m.n, .slice (some P) m.n c, .slice (some Q) m.n d, .int .u64 a, .int .i64 t, .int .i64 l, .int .u64 mp, .int .i64 i]] w (fun e w' => e = .returned (.bool true) ∧ Up w w') := by
  have hfew : few m.n m.n m.n = true := by unfold few rt; simp; have := hm.1.1; omega
  have hf := fun w => few_any m.n (some P) (some Q) m.n m.n c d w
  rw [hfew] at hf
  have hf := Lib.hid hf
  have hok := hm.1
  have HM := Lib.hid hm
  clear hfew hm
  have hKn := put_n m a t l mp
  have hKw := put_wf (a := a) (t := t) (l := l) hmp.1 hwf
  obtain ⟨k1, k2, k3, k4⟩ := put_at hok hmp.1 hp
  have k5 := put_kne hok hmp.1 hp
  have k6 := fun q j h0 h1 => put_zero hok hmp.1 hp q j h0 h1
  have h1 := fun (W : World) (hS : Sits W m P Q c d) => put_any m a t l mp P Q c d W hS ha hmp.1
  rw [pute_0.2 hp] at h1
  have h1 := Lib.hid h1
  generalize m.putm a t l mp = K at hKn hKw k1 k2 k3 k4 k5 k6 h1
  have k0 : K.kne a = 0 := by rw [k5, show (t != 255) = true from bne_iff_ne.mpr htf]; rfl
  have hh : hasb (K.atl a) i = false := by rw [k3]; exact decide_eq_false (fun q => by omega)
  have kn : ¬ K.fok a i := fun q => by have := q.2; rw [hh] at this; cases this
  have h2 := Lib.hid (fun (W : World) (P Q : Addr) (c d : Nat) (hS : Sits W K P Q c d) => show Calls Try.prog 14 #[.agg #[.int .i64 K.n, .slice (some P) K.n c, .slice (some Q) K.n d], .int .u64 a] W (fun e w' => e = .returned (.tuple #[.agg #[.int .i64 t, .int .i64 l, .int .u64 mp], .int .i64 0]) ∧ Up W w') from by
    have h := at_any K a P Q c d W hS ha hKw
    rw [k2, k3, k4, ate_0.2 k1] at h
    exact h)
  have h3 := Lib.hid (fun (W : World) (P Q : Addr) (c d : Nat) (hS : Sits W K P Q c d) => show Calls Try.prog 21 #[.agg #[.int .i64 K.n, .slice (some P) K.n c, .slice (some Q) K.n d], .int .u64 a] W (fun e w' => e = .returned (.tuple #[.int .u64 0, .int .i64 0]) ∧ Up W w') from by
    have h := twin_any K a P Q c d W hS ha hKw
    rw [show K.twv a = 0 from (if_pos k0).trans (k6 htf 1 (by omega) (by have := (rte_small hmp.1 hp.1).2.2.1; omega)), k0] at h
    exact h)
  have h4 := Lib.hid (fun (W : World) (P Q : Addr) (c d : Nat) (hS : Sits W K P Q c d) => show Calls Try.prog 16 #[.agg #[.int .i64 K.n, .slice (some P) K.n c, .slice (some Q) K.n d], .int .u64 a, .int .i64 i] W (fun e w' => e = .returned (.tuple #[.int .u64 0, .bool false, .int .i64 7]) ∧ Up W w') from by
    have h := get_any K a i P Q c d W hS ha hKw
    rw [show K.getv a i = 0 from if_neg kn, show K.getb a i = false from if_neg kn, show K.gete a i = 7 from (if_pos k0).trans (by rw [hh]; rfl)] at h
    exact h)
  have q0 : decide (i < l) = false := decide_eq_false (by omega)
  have tb : (t == 255) = false := beq_eq_false_iff_ne.mpr htf
  have hE : ∀ w, (binOp .neq 28 (.agg #[.int .i64 t, .int .i64 l, .int .u64 mp]) (.agg #[.int .i64 t, .int .i64 l, .int .u64 mp])).run Try.prog w = .ok (.bool false) w := fun w => by rw [ne_head, hsame_self]; rfl
  clear hwf ha hl hmp hi hn hok hp hKn hKw k1 k2 k3 k4 k5 k6 kn k0 hh htf ht
  go_enter Try.func5, Try.ntmps5
  go_wp2_with (fail)
  refine (shown_any _).mono ?_
  rintro e w1 ⟨rfl, h1⟩
  have M1 : Blk w1 (w.heap.size + 1) 25 #[.int .i64 m.n, .slice (some P) m.n c, .slice (some Q) m.n d] := (((Blk.new' _ (by simp) _ _).alloc _)).up h1
  have H1 : Blk w1 (w.heap.size + 1 + 1) 28 #[.int .i64 t, .int .i64 l, .int .u64 mp] := ((Blk.new' _ (by simp) _ _)).up h1
  have U1 : Up w w1 := (((((Up.refl w).alloc _).alloc _).alloc _)).trans h1
  clear h1
  have M1c := M1.cell
  have M1l := M1.lt
  have H1c := H1.cell
  have H1l := H1.lt
  go_wp2_with (fail)
  refine (hf.out _).mono ?_
  rintro e w2 ⟨rfl, h2⟩
  have M2 := M1.up h2
  have H2 := H1.up h2
  have U2 : Up w w2 := U1.trans h2
  clear h2 M1 M1c M1l H1 H1c H1l U1
  have M2c := M2.cell
  have M2l := M2.lt
  have H2c := H2.cell
  have H2l := H2.lt
  go_wp2_with (fail)
  refine (h1.out _ (HM.out.up U2)).mono ?_
  rintro e w3 ⟨PA, QA, cA, dA, rfl, sA3, h3⟩
  have M3 := M2.up h3
  have H3 := H2.up h3
  have U3 : Up w w3 := U2.trans h3
  clear h3 M2 M2c M2l H2 H2c H2l U2
  have M3c := M3.cell
  have M3l := M3.lt
  have H3c := H3.cell
  have H3l := H3.lt
  go_wp2_with (fail)
  refine (h2.out _ _ _ _ _ (sA3.up ((Up.refl _).alloc _))).mono ?_
  rintro e w4 ⟨rfl, h4⟩
  have M4 := (M3.alloc _).up h4
  have H4 := (H3.alloc _).up h4
  have A4 := (Blk.new w3 25 #[.int .i64 K.n, .slice (some PA) K.n cA, .slice (some QA) K.n dA]).up h4
  have U4 : Up w w4 := (U3.alloc _).trans h4
  have sA4 := (sA3.up ((Up.refl _).alloc _)).up h4
  clear h4 M3 M3c M3l H3 H3c H3l U3 sA3
  have M4c := M4.cell
  have M4l := M4.lt
  have H4c := H4.cell
  have H4l := H4.lt
  have A4c := A4.cell
  have A4l := A4.lt
  go_wp2_with (fail)
  refine (h3.out _ _ _ _ _ (sA4.up ((Up.refl _).alloc _))).mono ?_
  rintro e w5 ⟨rfl, h5⟩
  have M5 := (M4.alloc _).up h5
  have H5 := (H4.alloc _).up h5
  have A5 := (A4.alloc _).up h5
  have X5 := (Blk.new w4 28 #[.int .i64 t, .int .i64 l, .int .u64 mp]).up h5
  have U5 : Up w w5 := (U4.alloc _).trans h5
  have sA5 := (sA4.up ((Up.refl _).alloc _)).up h5
  clear h5 M4 M4c M4l H4 H4c H4l A4 A4c A4l U4 sA4
  have M5c := M5.cell
  have M5l := M5.lt
  have H5c := H5.cell
  have H5l := H5.lt
  have A5c := A5.cell
  have A5l := A5.lt
  have X5c := X5.cell
  have X5l := X5.lt
  go_wp2_with (fail)
  refine (h4.out _ _ _ _ _ sA5).mono ?_
  rintro e w6 ⟨rfl, h6⟩
  have M6 := M5.up h6
  have H6 := H5.up h6
  have A6 := A5.up h6
  have X6 := X5.up h6
  have U6 : Up w w6 := U5.trans h6
  have sA6 := sA5.up h6
  clear h6 M5 M5c M5l H5 H5c H5l A5 A5c A5l X5 X5c X5l U5 sA5
  have M6c := M6.cell
  have M6l := M6.lt
  have H6c := H6.cell
  have H6l := H6.lt
  have A6c := A6.cell
  have A6l := A6.lt
  have X6c := X6.cell
  have X6l := X6.lt
  go_wp2
  go_ret
  exact ⟨rfl, U6⟩

theorem walk (NM : Int) (AM0 AM1 : Option Addr) (nM0 nM1 cM0 cM1 : Nat) (xsM ysM : List Int) (a : Int) (t l mp : Int) (i : Int) (w : World) (hxM : SlOk w AM0 nM0 cM0 xsM) (hyM : SlOk w AM1 nM1 cM1 ysM) (ha : U64 a) (ht : I64 t) (hl : I64 l) (hmp : U64 mp) (hi : I64 i) :
    Calls Try.prog 5 #[.agg #[.int .i64 NM, .slice AM0 nM0 cM0, .slice AM1 nM1 cM1, .int .u64 a, .int .i64 t, .int .i64 l, .int .u64 mp, .int .i64 i]] w (fun e w' => e = .returned (.bool true) ∧ Up w w') := by
  cases hfew : few NM nM0 nM1
  · exact walk_no NM AM0 AM1 nM0 nM1 cM0 cM1 xsM ysM a t l mp i hfew w
  · obtain ⟨rfl, rfl, h16, h200⟩ := few_is hfew
    obtain ⟨P, Q, rfl, rfl, hm⟩ := sits_of hxM hyM h16 (by omega)
    have hwf := sits_wf hxM hyM
    by_cases hp : (⟨nM0, xsM, ysM⟩ : Me).pok a t l mp
    · by_cases htf : t = 255
      · exact walk_fl ⟨nM0, xsM, ysM⟩ P Q cM0 cM1 a t l mp i w hm h200 hwf ha ht hl hmp hi hp htf
      by_cases i0 : i < 0
      · exact walk_lo ⟨nM0, xsM, ysM⟩ P Q cM0 cM1 a t l mp i w hm h200 hwf ha ht hl hmp hi hp htf i0
      by_cases i1 : i < l
      · exact walk_in ⟨nM0, xsM, ysM⟩ P Q cM0 cM1 a t l mp i w hm h200 hwf ha ht hl hmp hi hp htf (by omega) i1
      · exact walk_hi ⟨nM0, xsM, ysM⟩ P Q cM0 cM1 a t l mp i w hm h200 hwf ha ht hl hmp hi hp htf (by omega) (by omega)
    · exact walk_no2 ⟨nM0, xsM, ysM⟩ P Q cM0 cM1 a t l mp i w hm h200 hwf ha ht hl hmp hi hp
theorem cells : Try.prog.cellsOf 64 = 8 := by kernel_rfl
set_option maxRecDepth 100000 in
theorem opened {H : Type} {enc : TypeId × Value → H} {w : World} {r : Reach} {b0 : Nat} {vl_ : Value} {d : DataW H} {p : List MemPlace} (hvl_ : Value.okWide Try.prog w r b0 64 vl_) (h_ : DataW.Trod enc Try.prog w 0 (fun _ => true) true 64 vl_ d p) :
    ∃ (NM : Int) (AM0 AM1 : Option Addr) (nM0 nM1 cM0 cM1 : Nat) (xsM ysM : List Int) (a : Int) (t l mp : Int) (i : Int), vl_ = .agg #[.int .i64 NM, .slice AM0 nM0 cM0, .slice AM1 nM1 cM1, .int .u64 a, .int .i64 t, .int .i64 l, .int .u64 mp, .int .i64 i] ∧ I64 NM ∧ SlOk w AM0 nM0 cM0 xsM ∧ SlOk w AM1 nM1 cM1 ysM ∧ U64 a ∧ I64 t ∧ I64 l ∧ U64 mp ∧ I64 i := by
  obtain ⟨⟨l⟩, rfl, hsz⟩ := okWide_struct Try.underlying64 hvl_
  match l, hsz.trans cells with
  | [z0_, z1_, z2_, z3_, z4_, z5_, z6_, z7_], _ =>
    obtain ⟨fuel, hf_⟩ := h_
    obtain ⟨ys_, n_, _, _, _, hlen_, hg_⟩ := DataW.trod_struct Try.underlying64 hf_
    have f0_ := hg_ 0 _ rfl
    have f1_ := hg_ 1 _ rfl
    have f2_ := hg_ 2 _ rfl
    have f3_ := hg_ 3 _ rfl
    match ys_, hlen_ with
    | [y0_, y1_, y2_, y3_], _ =>
      change DataW.trod enc Try.prog w 0 (fun _ => true) true n_ 25 (([z0_, z1_, z2_, z3_, z4_, z5_, z6_, z7_].drop 0).take (Try.prog.cellsOf 25)) = some y0_ at f0_
      rw [cells_mem] at f0_
      change DataW.trod enc Try.prog w 0 (fun _ => true) true n_ 26 (([z0_, z1_, z2_, z3_, z4_, z5_, z6_, z7_].drop 3).take (Try.prog.cellsOf 26)) = some y1_ at f1_
      rw [cells_u64] at f1_
      change DataW.trod enc Try.prog w 0 (fun _ => true) true n_ 28 (([z0_, z1_, z2_, z3_, z4_, z5_, z6_, z7_].drop 4).take (Try.prog.cellsOf 28)) = some y2_ at f2_
      rw [cells_head] at f2_
      change DataW.trod enc Try.prog w 0 (fun _ => true) true n_ 3 (([z0_, z1_, z2_, z3_, z4_, z5_, z6_, z7_].drop 7).take (Try.prog.cellsOf 3)) = some y3_ at f3_
      rw [cells_int] at f3_
      obtain ⟨NM, AM0, AM1, nM0, nM1, cM0, cM1, xsM, ysM, rfl, rfl, rfl, hNM, hxM, hyM⟩ := mem_open (v0 := z0_) (v1 := z1_) (v2 := z2_) f0_
      obtain ⟨a, rfl, ha⟩ := u64_open (v := z3_) f1_
      obtain ⟨t, l, mp, rfl, rfl, rfl, ht, hl, hmp⟩ := head_cells (v0 := z4_) (v1 := z5_) (v2 := z6_) f2_
      obtain ⟨i, rfl, hi⟩ := int_open (v := z7_) f3_
      exact ⟨NM, AM0, AM1, nM0, nM1, cM0, cM1, xsM, ysM, a, t, l, mp, i, rfl, hNM, hxM, hyM, ha, ht, hl, hmp, hi⟩

theorem own : ownKnob Try.prog.godebug = none := by kernel_rfl
set_option maxRecDepth 100000 in
theorem lifted (os : Os) (started : os.Started) (H : Type) (enc : TypeId × Value → H) :
    ReturnsInHanded {} Try.checked os 5 .any (Rows.objectNewSpec.pre6 enc Try.prog Try.f5 Rows.objectNewRow.domain false) (Rows.objectNewSpec.post enc Try.prog Try.f5 false true false false) := by
  refine returnsInHanded_of_change (C := Try.checked) own started (by kernel_rfl) Try.func5
    (ChangeSpec.witness6 (enc := enc) (C := Try.checked) false ⟨#[], #[.agg #[.int .i64 0, .slice none 0 0, .slice none 0 0, .int .u64 0, .int .i64 0, .int .i64 0, .int .u64 0, .int .i64 0]], []⟩ 8 (by kernel_rfl) (by kernel_rfl) (by kernel_rfl) (by kernel_rfl)) ?_
  intro W base args ds gs before hval0 hW hcnd _
  have hval : ∀ (j : Nat) t v, Try.f5.params[j]? = some t → args[j]? = some v → Value.okWide Try.prog W .any base t v := hval0
  have hW' := hW
  obtain ⟨p, q, hA0, hV, rfl, hfz, hnd⟩ := hW
  have hA : DataW.TrodAll enc Try.prog W 0 (fun _ => true) true Try.f5.params.toList args.toList ds p := hA0
  rw [Try.params5] at hA hval
  obtain ⟨v0, vs0, d0, ds0, p0, q0, hargs, rfl, rfl, h0, r0⟩ := trodAll_cons hA
  obtain ⟨rfl, rfl, rfl⟩ := trodAll_nil r0
  obtain rfl : args = #[v0] := by cases args; simp_all
  obtain ⟨rfl, rfl⟩ := trodVars_none hV
  have h0k := h0
  obtain ⟨NM, AM0, AM1, nM0, nM1, cM0, cM1, xsM, ysM, a, t, l, mp, i, rfl, hNM, hxM, hyM, ha, ht, hl, hmp, hi⟩ := opened (hval 0 64 v0 rfl rfl) h0
  clear hA0 hval0
  simp only [List.append_nil] at hW'
  refine (walk NM AM0 AM1 nM0 nM1 cM0 cM1 xsM ysM a t l mp i W hxM hyM ha ht hl hmp hi).mono fun e W' ⟨he, hg⟩ => ?_
  subst he
  exact ⟨_, rfl, post_below (pa := p0) (pv := []) hW' (fun _ _ _ => (trodAll_cons_mk (shut_bool Try.underlying4 _) trodAll_mk0))
    (fun sp hsp => by
      have t := trodAll_cons_mk (trod_keeps (sp := sp) (by kernel_rfl) (of_decide_eq_true (by kernel_rfl)) h0k hg (fun x hx => hW'.lt x hx) (fun x hx => hsp x hx)) trodAll_mk0
      rw [List.append_nil] at t
      exact t) (fun _ _ => rfl) (by simp)
    hg (ok_one (by kernel_rfl) rfl (okWide_bool_mk Try.underlying4 _))⟩

set_option maxRecDepth 100000 in
theorem over : Rows.objectNewRow.holds Try.pinned (OpenSpec.ofChange Rows.objectNewSpec) :=
  OpenClaim.holds_of_wide 5 Try.f5 rfl rfl rfl rfl rfl rfl rfl ⟨rfl, rfl, rfl, rfl, rfl⟩ rfl rfl rfl rfl rfl (by kernel_rfl) Try.func5 (by kernel_rfl)
    (of_decide_eq_true (by kernel_rfl)) (by unfold Func.isWrapper; first | (rw [if_pos (by decide +kernel)]; kernel_rfl) | (rw [if_neg (by decide +kernel)]; exact ⟨rfl, rfl⟩))
    (fun os started H enc _ => lifted os started H enc)

theorem proved : Rows.ObjectNewSaid :=
  over
#print axioms proved
end Go.Proofs.Ytmdejmdfohgpoaa.LObjectNew
