/- The statement ObjectOutside is proved for every input, from contracts of the functions that it calls; no condition is added. -/
import Derived.Test.YtmdejmdfohgpoaaOb12
namespace Go.Proofs.Ytmdejmdfohgpoaa.LObjectOutside
open Go.Joins Go.ChangeShapes Go.WideShapes Go.ChangeAt Go.RowKit Go.Deep
set_option linter.unusedVariables false
set_option linter.unusedSimpArgs false

set_option maxRecDepth 100000 in
set_option maxHeartbeats 4000000 in
theorem walk_no (NM : Int) (AM0 AM1 : Option Addr) (nM0 nM1 cM0 cM1 : Nat) (xsM ysM : List Int) (a : Int) (t l mp : Int) (o : Int) (hfew : few NM nM0 nM1 = false) (w : World) :
    Calls Try.prog 8 #[.agg #[.int .i64 NM, .slice AM0 nM0 cM0, .slice AM1 nM1 cM1, .int .u64 a, .int .i64 t, .int .i64 l, .int .u64 mp, .int .u64 o]] w (fun e w' => e = .returned (.bool true) ∧ Up w w') := by
  have hf := fun w => few_any NM AM0 AM1 nM0 nM1 cM0 cM1 w
  rw [hfew] at hf
  have hf := Lib.hid hf
  clear hfew
  go_enter Try.func8, Try.ntmps8
  go_wp2_with (fail)
  refine (shown_any _).mono ?_
  rintro e w1 ⟨rfl, h1⟩
  have M1 : Blk w1 (w.heap.size + 1) 25 #[.int .i64 NM, .slice AM0 nM0 cM0, .slice AM1 nM1 cM1] := (((Blk.new' _ (by simp) _ _).alloc _)).up h1
  have H1 : Blk w1 (w.heap.size + 1 + 1) 28 #[.int .i64 t, .int .i64 l, .int .u64 mp] := ((Blk.new' _ (by simp) _ _)).up h1
  have U1 : Up w w1 := (((((Up.refl w).alloc _).alloc _).alloc _)).trans h1
  clear h1
  have M1c := M1.cell
  have M1l := M1.lt
  have H1c := H1.cell
  have H1l := H1.lt
  go_wp2_with (fail)
  refine (hf.out _).mono ?_
  rintro e w2 ⟨rfl, h2⟩
  have M2 := M1.up h2
  have H2 := H1.up h2
  have U2 : Up w w2 := U1.trans h2
  clear h2 M1 M1c M1l H1 H1c H1l U1
  have M2c := M2.cell
  have M2l := M2.lt
  have H2c := H2.cell
  have H2l := H2.lt
  go_wp2
  go_ret
  exact ⟨rfl, U2⟩

set_option maxRecDepth 100000 in
set_option maxHeartbeats 8000000 in
theorem walk_no2 (m : Me) (P Q : Addr) (c d : Nat) (a : Int) (t l mp : Int) (o : Int) (w : World) (hm : Sits w m P Q c d) (hn : m.n ≤ 200) (hwf : m.wf) (ha : U64 a) (ht : I64 t) (hl : I64 l) (hmp : U64 mp) (ho : U64 o) (hp : ¬ m.pok a t l mp) :
    Calls Try.prog 8 #[.agg #[.int .i64 m.n, .slice (some P) m.n c, .slice (some Q) m.n d, .int .u64 a, .int .i64 t, .int .i64 l, .int .u64 mp, .int .u64 o]] w (fun e w' => e = .returned (.bool true) ∧ Up w w') := by
  have hfew : few m.n m.n m.n = true := by unfold few rt; simp; have := hm.1.1; omega
  have hf := fun w => few_any m.n (some P) (some Q) m.n m.n c d w
  rw [hfew] at hf
  have hf := Lib.hid hf
  have hok := hm.1
  have HM := Lib.hid hm
  clear hfew hm
  have h1 := fun (W : World) (hS : Sits W m P Q c d) => put_any m a t l mp P Q c d W hS ha hmp.1
  rw [show m.putm a t l mp = m from if_neg hp] at h1
  have h1 := Lib.hid h1
  have hb : (m.pute a t l mp == 0) = false := beq_eq_false_iff_ne.mpr (fun q => hp (pute_0.1 q))
  have h2 := Lib.hid (fun (W : World) (hS : Sits W m P Q c d) => show Calls Try.prog 29 #[.agg #[.int .i64 m.n, .slice (some P) m.n c, .slice (some Q) m.n d], .int .u64 o] W (fun e w' => e = .returned (.tuple #[.int .u64 (m.ld o), .int .i64 (m.lde o)]) ∧ Up W w') from rload_any m o P Q c d W hS ho)
  have h3 := Lib.hid (fun (W : World) (P Q : Addr) (c d : Nat) (hS : Sits W m P Q c d) => rload_any m o P Q c d W hS ho)
  generalize m.pute a t l mp = z at h1 hb
  generalize m.ld o = v at h2 h3
  generalize m.lde o = ve at h2 h3
  clear hwf ha ht hl hmp ho hn hok hp
  go_enter Try.func8, Try.ntmps8
  go_wp2_with (fail)
  refine (shown_any _).mono ?_
  rintro e w1 ⟨rfl, h1⟩
  have M1 : Blk w1 (w.heap.size + 1) 25 #[.int .i64 m.n, .slice (some P) m.n c, .slice (some Q) m.n d] := (((Blk.new' _ (by simp) _ _).alloc _)).up h1
  have H1 : Blk w1 (w.heap.size + 1 + 1) 28 #[.int .i64 t, .int .i64 l, .int .u64 mp] := ((Blk.new' _ (by simp) _ _)).up h1
  have U1 : Up w w1 := (((((Up.refl w).alloc _).alloc _).alloc _)).trans h1
  clear h1
  have M1c := M1.cell
  have M1l := M1.lt
  have H1c := H1.cell
  have H1l := H1.lt
  go_wp2_with (fail)
  refine (hf.out _).mono ?_
  rintro e w2 ⟨rfl, h2⟩
  have M2 := M1.up h2
  have H2 := H1.up h2
  have U2 : Up w w2 := U1.trans h2
  clear h2 M1 M1c M1l H1 H1c H1l U1
  have M2c := M2.cell
  have M2l := M2.lt
  have H2c := H2.cell
  have H2l := H2.lt
  go_wp2_with (fail)
  refine (h1.out _ (HM.out.up U2)).mono ?_
  rintro e w3 ⟨PA, QA, cA, dA, rfl, sA3, h3⟩
  have M3 := M2.up h3
  have H3 := H2.up h3
  have U3 : Up w w3 := U2.trans h3
  clear h3 M2 M2c M2l H2 H2c H2l U2
  have M3c := M3.cell
  have M3l := M3.lt
  have H3c := H3.cell
  have H3l := H3.lt
  go_wp2_with (fail)
  refine (h2.out _ (HM.out.up (U3.alloc _))).mono ?_
  rintro e w4 ⟨rfl, h4⟩
  have M4 := (M3.alloc _).up h4
  have H4 := (H3.alloc _).up h4
  have A4 := (Blk.new w3 25 #[.int .i64 m.n, .slice (some PA) m.n cA, .slice (some QA) m.n dA]).up h4
  have U4 : Up w w4 := (U3.alloc _).trans h4
  have sA4 := (sA3.up ((Up.refl _).alloc _)).up h4
  clear h4 M3 M3c M3l H3 H3c H3l U3 sA3
  have M4c := M4.cell
  have M4l := M4.lt
  have H4c := H4.cell
  have H4l := H4.lt
  have A4c := A4.cell
  have A4l := A4.lt
  go_wp2_with (fail)
  refine (h3.out _ _ _ _ _ sA4).mono ?_
  rintro e w5 ⟨rfl, h5⟩
  have M5 := M4.up h5
  have H5 := H4.up h5
  have A5 := A4.up h5
  have U5 : Up w w5 := U4.trans h5
  have sA5 := sA4.up h5
  clear h5 M4 M4c M4l H4 H4c H4l A4 A4c A4l U4 sA4
  have M5c := M5.cell
  have M5l := M5.lt
  have H5c := H5.cell
  have H5l := H5.lt
  have A5c := A5.cell
  have A5l := A5.lt
  go_wp2
  go_ret
  exact ⟨rfl, U5⟩

set_option maxRecDepth 100000 in
set_option maxHeartbeats 8000000 in
theorem walk_lo (m : Me) (P Q : Addr) (c d : Nat) (a : Int) (t l mp : Int) (o : Int) (w : World) (hm : Sits w m P Q c d) (hn : m.n ≤ 200) (hwf : m.wf) (ha : U64 a) (ht : I64 t) (hl : I64 l) (hmp : U64 mp) (ho : U64 o) (hp : m.pok a t l mp) (hq : o < a) :
    Calls Try.prog 8 #[.agg #[.int .i64 m.n, .slice (some P) m.n c, .slice (some Q) m.n d, .int .u64 a, .int .i64 t, .int .i64 l, .int .u64 mp, .int .u64 o]] w (fun e w' => e = .returned (.bool true) ∧ Up w w') := by
  have hfew : few m.n m.n m.n = true := by unfold few rt; simp; have := hm.1.1; omega
  have hf := fun w => few_any m.n (some P) (some Q) m.n m.n c d w
  rw [hfew] at hf
  have hf := Lib.hid hf
  have hok := hm.1
  have HM := Lib.hid hm
  clear hfew hm
  have h1 := fun (W : World) (hS : Sits W m P Q c d) => put_any m a t l mp P Q c d W hS ha hmp.1
  rw [pute_0.2 hp] at h1
  have h1 := Lib.hid h1
  have k1 := lde_n (put_n m a t l mp) o
  have k2 := fun hb => put_out (m := m) (a := a) (t := t) (l := l) hmp.1 o hb
  generalize m.putm a t l mp = K at h1 k1 k2
  have h2 := Lib.hid (fun (W : World) (hS : Sits W m P Q c d) => show Calls Try.prog 29 #[.agg #[.int .i64 m.n, .slice (some P) m.n c, .slice (some Q) m.n d], .int .u64 o] W (fun e w' => e = .returned (.tuple #[.int .u64 (m.ld o), .int .i64 (m.lde o)]) ∧ Up W w') from rload_any m o P Q c d W hS ho)
  have h3 := Lib.hid (fun (W : World) (P Q : Addr) (c d : Nat) (hS : Sits W K P Q c d) => show Calls Try.prog 29 #[.agg #[.int .i64 K.n, .slice (some P) K.n c, .slice (some Q) K.n d], .int .u64 o] W (fun e w' => e = .returned (.tuple #[.int .u64 (m.ld o), .int .i64 (m.lde o)]) ∧ Up W w') from by
    have h := rload_any K o P Q c d W hS ho
    rw [k2 (.inl hq), k1] at h
    exact h)
  have hd : decide (a ≤ o) = false := decide_eq_false (by omega)
  generalize m.ld o = v at h2 h3
  generalize m.lde o = ve at h2 h3
  clear hwf ha ht hl hmp ho hn hok hp k1 k2 hq
  go_enter Try.func8, Try.ntmps8
  go_wp2_with (fail)
  refine (shown_any _).mono ?_
  rintro e w1 ⟨rfl, h1⟩
  have M1 : Blk w1 (w.heap.size + 1) 25 #[.int .i64 m.n, .slice (some P) m.n c, .slice (some Q) m.n d] := (((Blk.new' _ (by simp) _ _).alloc _)).up h1
  have H1 : Blk w1 (w.heap.size + 1 + 1) 28 #[.int .i64 t, .int .i64 l, .int .u64 mp] := ((Blk.new' _ (by simp) _ _)).up h1
  have U1 : Up w w1 := (((((Up.refl w).alloc _).alloc _).alloc _)).trans h1
  clear h1
  have M1c := M1.cell
  have M1l := M1.lt
  have H1c := H1.cell
  have H1l := H1.lt
  go_wp2_with (fail)
  refine (hf.out _).mono ?_
  rintro e w2 ⟨rfl, h2⟩
  have M2 := M1.up h2
  have H2 := H1.up h2
  have U2 : Up w w2 := U1.trans h2
  clear h2 M1 M1c M1l H1 H1c H1l U1
  have M2c := M2.cell
  have M2l := M2.lt
  have H2c := H2.cell
  have H2l := H2.lt
  go_wp2_with (fail)
  refine (h1.out _ (HM.out.up U2)).mono ?_
  rintro e w3 ⟨PA, QA, cA, dA, rfl, sA3, h3⟩
  have M3 := M2.up h3
  have H3 := H2.up h3
  have U3 : Up w w3 := U2.trans h3
  clear h3 M2 M2c M2l H2 H2c H2l U2
  have M3c := M3.cell
  have M3l := M3.lt
  have H3c := H3.cell
  have H3l := H3.lt
  go_wp2_with (fail)
  refine (h2.out _ (HM.out.up (U3.alloc _))).mono ?_
  rintro e w4 ⟨rfl, h4⟩
  have M4 := (M3.alloc _).up h4
  have H4 := (H3.alloc _).up h4
  have A4 := (Blk.new w3 25 #[.int .i64 K.n, .slice (some PA) K.n cA, .slice (some QA) K.n dA]).up h4
  have U4 : Up w w4 := (U3.alloc _).trans h4
  have sA4 := (sA3.up ((Up.refl _).alloc _)).up h4
  clear h4 M3 M3c M3l H3 H3c H3l U3 sA3
  have M4c := M4.cell
  have M4l := M4.lt
  have H4c := H4.cell
  have H4l := H4.lt
  have A4c := A4.cell
  have A4l := A4.lt
  go_wp2_with (fail)
  refine (h3.out _ _ _ _ _ sA4).mono ?_
  rintro e w5 ⟨rfl, h5⟩
  have M5 := M4.up h5
  have H5 := H4.up h5
  have A5 := A4.up h5
  have U5 : Up w w5 := U4.trans h5
  have sA5 := sA4.up h5
  clear h5 M4 M4c M4l H4 H4c H4l A4 A4c A4l U4 sA4
  have M5c := M5.cell
  have M5l := M5.lt
  have H5c := H5.cell
  have H5l := H5.lt
  have A5c := A5.cell
  have A5l := A5.lt
  go_wp2
  go_ret
  exact ⟨rfl, U5⟩

set_option maxRecDepth 100000 in
set_option maxHeartbeats 8000000 in
theorem walk_hi (m : Me) (P Q : Addr) (c d : Nat) (a : Int) (t l mp : Int) (o : Int) (w : World) (hm : Sits w m P Q c d) (hn : m.n ≤ 200) (hwf : m.wf) (ha : U64 a) (ht : I64 t) (hl : I64 l) (hmp : U64 mp) (ho : U64 o) (hp : m.pok a t l mp) (hge : a ≤ o) (hq : a + wdn t l ≤ o) :
    Calls Try.prog 8 #[.agg #[.int .i64 m.n, .slice (some P) m.n c, .slice (some Q) m.n d, .int .u64 a, .int .i64 t, .int .i64 l, .int .u64 mp, .int .u64 o]] w (fun e w' => e = .returned (.bool true) ∧ Up w w') := by
  have hfew : few m.n m.n m.n = true := by unfold few rt; simp; have := hm.1.1; omega
  have hf := fun w => few_any m.n (some P) (some Q) m.n m.n c d w
  rw [hfew] at hf
  have hf := Lib.hid hf
  have hok := hm.1
  have HM := Lib.hid hm
  clear hfew hm
  have h1 := fun (W : World) (hS : Sits W m P Q c d) => put_any m a t l mp P Q c d W hS ha hmp.1
  rw [pute_0.2 hp] at h1
  have h1 := Lib.hid h1
  have k1 := lde_n (put_n m a t l mp) o
  have k2 := fun hb => put_out (m := m) (a := a) (t := t) (l := l) hmp.1 o hb
  generalize m.putm a t l mp = K at h1 k1 k2
  have h2 := Lib.hid (fun (W : World) (hS : Sits W m P Q c d) => show Calls Try.prog 29 #[.agg #[.int .i64 m.n, .slice (some P) m.n c, .slice (some Q) m.n d], .int .u64 o] W (fun e w' => e = .returned (.tuple #[.int .u64 (m.ld o), .int .i64 (m.lde o)]) ∧ Up W w') from rload_any m o P Q c d W hS ho)
  have h3 := Lib.hid (fun (W : World) (P Q : Addr) (c d : Nat) (hS : Sits W K P Q c d) => show Calls Try.prog 29 #[.agg #[.int .i64 K.n, .slice (some P) K.n c, .slice (some Q) K.n d], .int .u64 o] W (fun e w' => e = .returned (.tuple #[.int .u64 (m.ld o), .int .i64 (m.lde o)]) ∧ Up W w') from by
    have h := rload_any K o P Q c d W hS ho
    rw [k2 (.inr hq), k1] at h
    exact h)
  generalize m.ld o = v at h2 h3
  generalize m.lde o = ve at h2 h3
  clear k2
  have h4 := Lib.hid (fun w => rhwords_any t l mp hmp.1 hp.1 w)
  have hws := wdn_small hmp.1 hp.1
  generalize wdn t l = k at h4 hws hq
  obtain ⟨w0, w1⟩ := hws
  obtain ⟨a0, a1⟩ := ha
  obtain ⟨o0, o1⟩ := ho
  have hd : decide (o - a < k) = false := decide_eq_false (by omega)
  clear hwf ht hl hmp hn hok hp k1 hq
  go_enter Try.func8, Try.ntmps8
  go_wp2_with (fail)
  refine (shown_any _).mono ?_
  rintro e w1 ⟨rfl, h1⟩
  have M1 : Blk w1 (w.heap.size + 1) 25 #[.int .i64 m.n, .slice (some P) m.n c, .slice (some Q) m.n d] := (((Blk.new' _ (by simp) _ _).alloc _)).up h1
  have H1 : Blk w1 (w.heap.size + 1 + 1) 28 #[.int .i64 t, .int .i64 l, .int .u64 mp] := ((Blk.new' _ (by simp) _ _)).up h1
  have U1 : Up w w1 := (((((Up.refl w).alloc _).alloc _).alloc _)).trans h1
  clear h1
  have M1c := M1.cell
  have M1l := M1.lt
  have H1c := H1.cell
  have H1l := H1.lt
  go_wp2_with (fail)
  refine (hf.out _).mono ?_
  rintro e w2 ⟨rfl, h2⟩
  have M2 := M1.up h2
  have H2 := H1.up h2
  have U2 : Up w w2 := U1.trans h2
  clear h2 M1 M1c M1l H1 H1c H1l U1
  have M2c := M2.cell
  have M2l := M2.lt
  have H2c := H2.cell
  have H2l := H2.lt
  go_wp2_with (fail)
  refine (h1.out _ (HM.out.up U2)).mono ?_
  rintro e w3 ⟨PA, QA, cA, dA, rfl, sA3, h3⟩
  have M3 := M2.up h3
  have H3 := H2.up h3
  have U3 : Up w w3 := U2.trans h3
  clear h3 M2 M2c M2l H2 H2c H2l U2
  have M3c := M3.cell
  have M3l := M3.lt
  have H3c := H3.cell
  have H3l := H3.lt
  go_wp2_with (fail)
  refine (h2.out _ (HM.out.up (U3.alloc _))).mono ?_
  rintro e w4 ⟨rfl, h4⟩
  have M4 := (M3.alloc _).up h4
  have H4 := (H3.alloc _).up h4
  have A4 := (Blk.new w3 25 #[.int .i64 K.n, .slice (some PA) K.n cA, .slice (some QA) K.n dA]).up h4
  have U4 : Up w w4 := (U3.alloc _).trans h4
  have sA4 := (sA3.up ((Up.refl _).alloc _)).up h4
  clear h4 M3 M3c M3l H3 H3c H3l U3 sA3
  have M4c := M4.cell
  have M4l := M4.lt
  have H4c := H4.cell
  have H4l := H4.lt
  have A4c := A4.cell
  have A4l := A4.lt
  go_wp2_with (fail)
  refine (h3.out _ _ _ _ _ sA4).mono ?_
  rintro e w5 ⟨rfl, h5⟩
  have M5 := M4.up h5
  have H5 := H4.up h5
  have A5 := A4.up h5
  have U5 : Up w w5 := U4.trans h5
  have sA5 := sA4.up h5
  clear h5 M4 M4c M4l H4 H4c H4l A4 A4c A4l U4 sA4
  have M5c := M5.cell
  have M5l := M5.lt
  have H5c := H5.cell
  have H5l := H5.lt
  have A5c := A5.cell
  have A5l := A5.lt
  go_wp2_with (fail)
  refine (h4.out _).mono ?_
  rintro e w6 ⟨rfl, h6⟩
  have M6 := M5.up h6
  have H6 := H5.up h6
  have A6 := A5.up h6
  have U6 : Up w w6 := U5.trans h6
  have sA6 := sA5.up h6
  clear h6 M5 M5c M5l H5 H5c H5l A5 A5c A5l U5 sA5
  have M6c := M6.cell
  have M6l := M6.lt
  have H6c := H6.cell
  have H6l := H6.lt
  have A6c := A6.cell
  have A6l := A6.lt
  go_wp2
  go_ret
  exact ⟨rfl, U6⟩

set_option maxRecDepth 100000 in
set_option maxHeartbeats 8000000 in
theorem walk_eq (m : Me) (P Q : Addr) (c d : Nat) (a : Int) (t l mp : Int) (o : Int) (w : World) (hm : Sits w m P Q c d) (hn : m.n ≤ 200) (hwf : m.wf) (ha : U64 a) (ht : I64 t) (hl : I64 l) (hmp : U64 mp) (ho : U64 o) (hp : m.pok a t l mp) (hge : a ≤ o) (hq : o < a + wdn t l) (hv : (m.putm a t l mp).ld o = m.ld o) :
    Calls Try.prog 8 #[.agg #[.int .i64 m.n, .slice (some P) m.n c, .slice (some Q) m.n d, .int .u64 a, .int .i64 t, .int .i64 l, .int .u64 mp, .int .u64 o]] w (fun e w' => e = .returned (.bool true) ∧ Up w w') := by
  have hfew : few m.n m.n m.n = true := by unfold few rt; simp; have := hm.1.1; omega
  have hf := fun w => few_any m.n (some P) (some Q) m.n m.n c d w
  rw [hfew] at hf
  have hf := Lib.hid hf
  have hok := hm.1
  have HM := Lib.hid hm
  clear hfew hm
  have h1 := fun (W : World) (hS : Sits W m P Q c d) => put_any m a t l mp P Q c d W hS ha hmp.1
  rw [pute_0.2 hp] at h1
  have h1 := Lib.hid h1
  have k1 := lde_n (put_n m a t l mp) o
  have k2 := fun hb => put_out (m := m) (a := a) (t := t) (l := l) hmp.1 o hb
  generalize m.putm a t l mp = K at h1 k1 k2 hv
  have h2 := Lib.hid (fun (W : World) (hS : Sits W m P Q c d) => show Calls Try.prog 29 #[.agg #[.int .i64 m.n, .slice (some P) m.n c, .slice (some Q) m.n d], .int .u64 o] W (fun e w' => e = .returned (.tuple #[.int .u64 (m.ld o), .int .i64 (m.lde o)]) ∧ Up W w') from rload_any m o P Q c d W hS ho)
  have h3 := Lib.hid (fun (W : World) (P Q : Addr) (c d : Nat) (hS : Sits W K P Q c d) => show Calls Try.prog 29 #[.agg #[.int .i64 K.n, .slice (some P) K.n c, .slice (some Q) K.n d], .int .u64 o] W (fun e w' => e = .returned (.tuple #[.int .u64 (m.ld o), .int .i64 (m.lde o)]) ∧ Up W w') from by
    have h := rload_any K o P Q c d W hS ho
    rw [hv, k1] at h
    exact h)
  generalize m.ld o = v at h2 h3
  generalize m.lde o = ve at h2 h3
  clear k2
  have h4 := Lib.hid (fun w => rhwords_any t l mp hmp.1 hp.1 w)
  have hws := wdn_small hmp.1 hp.1
  generalize wdn t l = k at h4 hws hq
  obtain ⟨w0, w1⟩ := hws
  obtain ⟨a0, a1⟩ := ha
  obtain ⟨o0, o1⟩ := ho
  have hd : decide (o - a < k) = true := decide_eq_true (by omega)
  clear hwf ht hl hmp hn hok hp k1 hq hv
  go_enter Try.func8, Try.ntmps8
  go_wp2_with (fail)
  refine (shown_any _).mono ?_
  rintro e w1 ⟨rfl, h1⟩
  have M1 : Blk w1 (w.heap.size + 1) 25 #[.int .i64 m.n, .slice (some P) m.n c, .slice (some Q) m.n d] := (((Blk.new' _ (by simp) _ _).alloc _)).up h1
  have H1 : Blk w1 (w.heap.size + 1 + 1) 28 #[.int .i64 t, .int .i64 l, .int .u64 mp] := ((Blk.new' _ (by simp) _ _)).up h1
  have U1 : Up w w1 := (((((Up.refl w).alloc _).alloc _).alloc _)).trans h1
  clear h1
  have M1c := M1.cell
  have M1l := M1.lt
  have H1c := H1.cell
  have H1l := H1.lt
  go_wp2_with (fail)
  refine (hf.out _).mono ?_
  rintro e w2 ⟨rfl, h2⟩
  have M2 := M1.up h2
  have H2 := H1.up h2
  have U2 : Up w w2 := U1.trans h2
  clear h2 M1 M1c M1l H1 H1c H1l U1
  have M2c := M2.cell
  have M2l := M2.lt
  have H2c := H2.cell
  have H2l := H2.lt
  go_wp2_with (fail)
  refine (h1.out _ (HM.out.up U2)).mono ?_
  rintro e w3 ⟨PA, QA, cA, dA, rfl, sA3, h3⟩
  have M3 := M2.up h3
  have H3 := H2.up h3
  have U3 : Up w w3 := U2.trans h3
  clear h3 M2 M2c M2l H2 H2c H2l U2
  have M3c := M3.cell
  have M3l := M3.lt
  have H3c := H3.cell
  have H3l := H3.lt
  go_wp2_with (fail)
  refine (h2.out _ (HM.out.up (U3.alloc _))).mono ?_
  rintro e w4 ⟨rfl, h4⟩
  have M4 := (M3.alloc _).up h4
  have H4 := (H3.alloc _).up h4
  have A4 := (Blk.new w3 25 #[.int .i64 K.n, .slice (some PA) K.n cA, .slice (some QA) K.n dA]).up h4
  have U4 : Up w w4 := (U3.alloc _).trans h4
  have sA4 := (sA3.up ((Up.refl _).alloc _)).up h4
  clear h4 M3 M3c M3l H3 H3c H3l U3 sA3
  have M4c := M4.cell
  have M4l := M4.lt
  have H4c := H4.cell
  have H4l := H4.lt
  have A4c := A4.cell
  have A4l := A4.lt
  go_wp2_with (fail)
  refine (h3.out _ _ _ _ _ sA4).mono ?_
  rintro e w5 ⟨rfl, h5⟩
  have M5 := M4.up h5
  have H5 := H4.up h5
  have A5 := A4.up h5
  have U5 : Up w w5 := U4.trans h5
  have sA5 := sA4.up h5
  clear h5 M4 M4c M4l H4 H4c H4l A4 A4c A4l U4 sA4
  have M5c := M5.cell
  have M5l := M5.lt
  have H5c := H5.cell
  have H5l := H5.lt
  have A5c := A5.cell
  have A5l := A5.lt
  go_wp2_with (fail)
  refine (h4.out _).mono ?_
  rintro e w6 ⟨rfl, h6⟩
  have M6 := M5.up h6
  have H6 := H5.up h6
  have A6 := A5.up h6
  have U6 : Up w w6 := U5.trans h6
  have sA6 := sA5.up h6
  clear h6 M5 M5c M5l H5 H5c H5l A5 A5c A5l U5 sA5
  have M6c := M6.cell
  have M6l := M6.lt
  have H6c := H6.cell
  have H6l := H6.lt
  have A6c := A6.cell
  have A6l := A6.lt
  go_wp2
  go_ret
  exact ⟨rfl, U6⟩

set_option maxRecDepth 100000 in
set_option maxHeartbeats 8000000 in
theorem walk_ne (m : Me) (P Q : Addr) (c d : Nat) (a : Int) (t l mp : Int) (o : Int) (w : World) (hm : Sits w m P Q c d) (hn : m.n ≤ 200) (hwf : m.wf) (ha : U64 a) (ht : I64 t) (hl : I64 l) (hmp : U64 mp) (ho : U64 o) (hp : m.pok a t l mp) (hge : a ≤ o) (hq : o < a + wdn t l) (hv : (m.putm a t l mp).ld o ≠ m.ld o) :
    Calls Try.prog 8 #[.agg #[.int .i64 m.n, .slice (some P) m.n c, .slice (some Q) m.n d, .int .u64 a, .int .i64 t, .int .i64 l, .int .u64 mp, .int .u64 o]] w (fun e w' => e = .returned (.bool true) ∧ Up w w') := by
  have hfew : few m.n m.n m.n = true := by unfold few rt; simp; have := hm.1.1; omega
  have hf := fun w => few_any m.n (some P) (some Q) m.n m.n c d w
  rw [hfew] at hf
  have hf := Lib.hid hf
  have hok := hm.1
  have HM := Lib.hid hm
  clear hfew hm
  have h1 := fun (W : World) (hS : Sits W m P Q c d) => put_any m a t l mp P Q c d W hS ha hmp.1
  rw [pute_0.2 hp] at h1
  have h1 := Lib.hid h1
  have k1 := lde_n (put_n m a t l mp) o
  have k2 := fun hb => put_out (m := m) (a := a) (t := t) (l := l) hmp.1 o hb
  generalize m.putm a t l mp = K at h1 k1 k2 hv
  have h2 := Lib.hid (fun (W : World) (hS : Sits W m P Q c d) => show Calls Try.prog 29 #[.agg #[.int .i64 m.n, .slice (some P) m.n c, .slice (some Q) m.n d], .int .u64 o] W (fun e w' => e = .returned (.tuple #[.int .u64 (m.ld o), .int .i64 (m.lde o)]) ∧ Up W w') from rload_any m o P Q c d W hS ho)
  have h3 := Lib.hid (fun (W : World) (P Q : Addr) (c d : Nat) (hS : Sits W K P Q c d) => show Calls Try.prog 29 #[.agg #[.int .i64 K.n, .slice (some P) K.n c, .slice (some Q) K.n d], .int .u64 o] W (fun e w' => e = .returned (.tuple #[.int .u64 (K.ld o), .int .i64 (m.lde o)]) ∧ Up W w') from by
    have h := rload_any K o P Q c d W hS ho
    rw [k1] at h
    exact h)
  have hvb : (m.ld o == K.ld o) = false := beq_eq_false_iff_ne.mpr (Ne.symm hv)
  clear hv
  generalize m.ld o = v at h2 hvb
  generalize K.ld o = v2 at h3 hvb
  generalize m.lde o = ve at h2 h3
  clear k2
  have h4 := Lib.hid (fun w => rhwords_any t l mp hmp.1 hp.1 w)
  have hws := wdn_small hmp.1 hp.1
  generalize wdn t l = k at h4 hws hq
  obtain ⟨w0, w1⟩ := hws
  obtain ⟨a0, a1⟩ := ha
  obtain ⟨o0, o1⟩ := ho
  have hd : decide (o - a < k) = true := decide_eq_true (by omega)
  clear hwf ht hl hmp hn hok hp k1 hq
  go_enter Try.func8, Try.ntmps8
  go_wp2_with (fail)
  refine (shown_any _).mono ?_
  rintro e w1 ⟨rfl, h1⟩
  have M1 : Blk w1 (w.heap.size + 1) 25 #[.int .i64 m.n, .slice (some P) m.n c, .slice (some Q) m.n d] := (((Blk.new' _ (by simp) _ _).alloc _)).up h1
  have H1 : Blk w1 (w.heap.size + 1 + 1) 28 #[.int .i64 t, .int .i64 l, .int .u64 mp] := ((Blk.new' _ (by simp) _ _)).up h1
  have U1 : Up w w1 := (((((Up.refl w).alloc _).alloc _).alloc _)).trans h1
  clear h1
  have M1c := M1.cell
  have M1l := M1.lt
  have H1c := H1.cell
  have H1l := H1.lt
  go_wp2_with (fail)
  refine (hf.out _).mono ?_
  rintro e w2 ⟨rfl, h2⟩
  have M2 := M1.up h2
  have H2 := H1.up h2
  have U2 : Up w w2 := U1.trans h2
  clear h2 M1 M1c M1l H1 H1c H1l U1
  have M2c := M2.cell
  have M2l := M2.lt
  have H2c := H2.cell
  have H2l := H2.lt
  go_wp2_with (fail)
  refine (h1.out _ (HM.out.up U2)).mono ?_
  rintro e w3 ⟨PA, QA, cA, dA, rfl, sA3, h3⟩
  have M3 := M2.up h3
  have H3 := H2.up h3
  have U3 : Up w w3 := U2.trans h3
  clear h3 M2 M2c M2l H2 H2c H2l U2
  have M3c := M3.cell
  have M3l := M3.lt
  have H3c := H3.cell
  have H3l := H3.lt
  go_wp2_with (fail)
  refine (h2.out _ (HM.out.up (U3.alloc _))).mono ?_
  rintro e w4 ⟨rfl, h4⟩
  have M4 := (M3.alloc _).up h4
  have H4 := (H3.alloc _).up h4
  have A4 := (Blk.new w3 25 #[.int .i64 K.n, .slice (some PA) K.n cA, .slice (some QA) K.n dA]).up h4
  have U4 : Up w w4 := (U3.alloc _).trans h4
  have sA4 := (sA3.up ((Up.refl _).alloc _)).up h4
  clear h4 M3 M3c M3l H3 H3c H3l U3 sA3
  have M4c := M4.cell
  have M4l := M4.lt
  have H4c := H4.cell
  have H4l := H4.lt
  have A4c := A4.cell
  have A4l := A4.lt
  go_wp2_with (fail)
  refine (h3.out _ _ _ _ _ sA4).mono ?_
  rintro e w5 ⟨rfl, h5⟩
  have M5 := M4.up h5
  have H5 := H4.up h5
  have A5 := A4.up h5
  have U5 : Up w w5 := U4.trans h5
  have sA5 := sA4.up h5
  clear h5 M4 M4c M4l H4 H4c H4l A4 A4c A4l U4 sA4
  have M5c := M5.cell
  have M5l := M5.lt
  have H5c := H5.cell
  have H5l := H5.lt
  have A5c := A5.cell
  have A5l := A5.lt
  go_wp2_with (fail)
  refine (h4.out _).mono ?_
  rintro e w6 ⟨rfl, h6⟩
  have M6 := M5.up h6
  have H6 := H5.up h6
  have A6 := A5.up h6
  have U6 : Up w w6 := U5.trans h6
  have sA6 := sA5.up h6
  clear h6 M5 M5c M5l H5 H5c H5l A5 A5c A5l U5 sA5
  have M6c := M6.cell
  have M6l := M6.lt
  have H6c := H6.cell
  have H6l := H6.lt
  have A6c := A6.cell
  have A6l := A6.lt
  go_wp2
  go_ret
  exact ⟨rfl, U6⟩

theorem walk (NM : Int) (AM0 AM1 : Option Addr) (nM0 nM1 cM0 cM1 : Nat) (xsM ysM : List Int) (a : Int) (t l mp : Int) (o : Int) (w : World) (hxM : SlOk w AM0 nM0 cM0 xsM) (hyM : SlOk w AM1 nM1 cM1 ysM) (ha : U64 a) (ht : I64 t) (hl : I64 l) (hmp : U64 mp) (ho : U64 o) :
    Calls Try.prog 8 #[.agg #[.int .i64 NM, .slice AM0 nM0 cM0, .slice AM1 nM1 cM1, .int .u64 a, .int .i64 t, .int .i64 l, .int .u64 mp, .int .u64 o]] w (fun e w' => e = .returned (.bool true) ∧ Up w w') := by
  cases hfew : few NM nM0 nM1
  · exact walk_no NM AM0 AM1 nM0 nM1 cM0 cM1 xsM ysM a t l mp o hfew w
  · obtain ⟨rfl, rfl, h16, h200⟩ := few_is hfew
    obtain ⟨P, Q, rfl, rfl, hm⟩ := sits_of hxM hyM h16 (by omega)
    have hwf := sits_wf hxM hyM
    by_cases hp : (⟨nM0, xsM, ysM⟩ : Me).pok a t l mp
    · by_cases q0 : o < a
      · exact walk_lo ⟨nM0, xsM, ysM⟩ P Q cM0 cM1 a t l mp o w hm h200 hwf ha ht hl hmp ho hp q0
      by_cases q1 : o < a + wdn t l
      · by_cases hv : (Me.putm ⟨nM0, xsM, ysM⟩ a t l mp).ld o = Me.ld ⟨nM0, xsM, ysM⟩ o
        · exact walk_eq ⟨nM0, xsM, ysM⟩ P Q cM0 cM1 a t l mp o w hm h200 hwf ha ht hl hmp ho hp (by omega) q1 hv
        · exact walk_ne ⟨nM0, xsM, ysM⟩ P Q cM0 cM1 a t l mp o w hm h200 hwf ha ht hl hmp ho hp (by omega) q1 hv
      · exact walk_hi ⟨nM0, xsM, ysM⟩ P Q cM0 cM1 a t l mp o w hm h200 hwf ha ht hl hmp ho hp (by omega) (by omega)
    · exact walk_no2 ⟨nM0, xsM, ysM⟩ P Q cM0 cM1 a t l mp o w hm h200 hwf ha ht hl hmp ho hp
theorem cells : Try.prog.cellsOf 75 = 8 := by kernel_rfl
set_option maxRecDepth 100000 in
theorem opened {H : Type} {enc : TypeId × Value → H} {w : World} {r : Reach} {b0 : Nat} {vl_ : Value} {d : DataW H} {p : List MemPlace} (hvl_ : Value.okWide Try.prog w r b0 75 vl_) (h_ : DataW.Trod enc Try.prog w 0 (fun _ => true) true 75 vl_ d p) :
    ∃ (NM : Int) (AM0 AM1 : Option Addr) (nM0 nM1 cM0 cM1 : Nat) (xsM ysM : List Int) (a : Int) (t l mp : Int) (o : Int), vl_ = .agg #[.int .i64 NM, .slice AM0 nM0 cM0, .slice AM1 nM1 cM1, .int .u64 a, .int .i64 t, .int .i64 l, .int .u64 mp, .int .u64 o] ∧ I64 NM ∧ SlOk w AM0 nM0 cM0 xsM ∧ SlOk w AM1 nM1 cM1 ysM ∧ U64 a ∧ I64 t ∧ I64 l ∧ U64 mp ∧ U64 o := by
  obtain ⟨⟨l⟩, rfl, hsz⟩ := okWide_struct Try.underlying75 hvl_
  match l, hsz.trans cells with
  | [z0_, z1_, z2_, z3_, z4_, z5_, z6_, z7_], _ =>
    obtain ⟨fuel, hf_⟩ := h_
    obtain ⟨ys_, n_, _, _, _, hlen_, hg_⟩ := DataW.trod_struct Try.underlying75 hf_
    have f0_ := hg_ 0 _ rfl
    have f1_ := hg_ 1 _ rfl
    have f2_ := hg_ 2 _ rfl
    have f3_ := hg_ 3 _ rfl
    match ys_, hlen_ with
    | [y0_, y1_, y2_, y3_], _ =>
      change DataW.trod enc Try.prog w 0 (fun _ => true) true n_ 25 (([z0_, z1_, z2_, z3_, z4_, z5_, z6_, z7_].drop 0).take (Try.prog.cellsOf 25)) = some y0_ at f0_
      rw [cells_mem] at f0_
      change DataW.trod enc Try.prog w 0 (fun _ => true) true n_ 26 (([z0_, z1_, z2_, z3_, z4_, z5_, z6_, z7_].drop 3).take (Try.prog.cellsOf 26)) = some y1_ at f1_
      rw [cells_u64] at f1_
      change DataW.trod enc Try.prog w 0 (fun _ => true) true n_ 28 (([z0_, z1_, z2_, z3_, z4_, z5_, z6_, z7_].drop 4).take (Try.prog.cellsOf 28)) = some y2_ at f2_
      rw [cells_head] at f2_
      change DataW.trod enc Try.prog w 0 (fun _ => true) true n_ 26 (([z0_, z1_, z2_, z3_, z4_, z5_, z6_, z7_].drop 7).take (Try.prog.cellsOf 26)) = some y3_ at f3_
      rw [cells_u64] at f3_
      obtain ⟨NM, AM0, AM1, nM0, nM1, cM0, cM1, xsM, ysM, rfl, rfl, rfl, hNM, hxM, hyM⟩ := mem_open (v0 := z0_) (v1 := z1_) (v2 := z2_) f0_
      obtain ⟨a, rfl, ha⟩ := u64_open (v := z3_) f1_
      obtain ⟨t, l, mp, rfl, rfl, rfl, ht, hl, hmp⟩ := head_cells (v0 := z4_) (v1 := z5_) (v2 := z6_) f2_
      obtain ⟨o, rfl, ho⟩ := u64_open (v := z7_) f3_
      exact ⟨NM, AM0, AM1, nM0, nM1, cM0, cM1, xsM, ysM, a, t, l, mp, o, rfl, hNM, hxM, hyM, ha, ht, hl, hmp, ho⟩

theorem own : ownKnob Try.prog.godebug = none := by kernel_rfl
set_option maxRecDepth 100000 in
theorem lifted (os : Os) (started : os.Started) (H : Type) (enc : TypeId × Value → H) :
    ReturnsInHanded {} Try.checked os 8 .any (Rows.objectOutsideSpec.pre6 enc Try.prog Try.f8 Rows.objectOutsideRow.domain false) (Rows.objectOutsideSpec.post enc Try.prog Try.f8 false true false false) := by
  refine returnsInHanded_of_change (C := Try.checked) own started (by kernel_rfl) Try.func8
    (ChangeSpec.witness6 (enc := enc) (C := Try.checked) false ⟨#[], #[.agg #[.int .i64 0, .slice none 0 0, .slice none 0 0, .int .u64 0, .int .i64 0, .int .i64 0, .int .u64 0, .int .u64 0]], []⟩ 8 (by kernel_rfl) (by kernel_rfl) (by kernel_rfl) (by kernel_rfl)) ?_
  intro W base args ds gs before hval0 hW hcnd _
  have hval : ∀ (j : Nat) t v, Try.f8.params[j]? = some t → args[j]? = some v → Value.okWide Try.prog W .any base t v := hval0
  have hW' := hW
  obtain ⟨p, q, hA0, hV, rfl, hfz, hnd⟩ := hW
  have hA : DataW.TrodAll enc Try.prog W 0 (fun _ => true) true Try.f8.params.toList args.toList ds p := hA0
  rw [Try.params8] at hA hval
  obtain ⟨v0, vs0, d0, ds0, p0, q0, hargs, rfl, rfl, h0, r0⟩ := trodAll_cons hA
  obtain ⟨rfl, rfl, rfl⟩ := trodAll_nil r0
  obtain rfl : args = #[v0] := by cases args; simp_all
  obtain ⟨rfl, rfl⟩ := trodVars_none hV
  have h0k := h0
  obtain ⟨NM, AM0, AM1, nM0, nM1, cM0, cM1, xsM, ysM, a, t, l, mp, o, rfl, hNM, hxM, hyM, ha, ht, hl, hmp, ho⟩ := opened (hval 0 75 v0 rfl rfl) h0
  clear hA0 hval0
  simp only [List.append_nil] at hW'
  refine (walk NM AM0 AM1 nM0 nM1 cM0 cM1 xsM ysM a t l mp o W hxM hyM ha ht hl hmp ho).mono fun e W' ⟨he, hg⟩ => ?_
  subst he
  exact ⟨_, rfl, post_below (pa := p0) (pv := []) hW' (fun _ _ _ => (trodAll_cons_mk (shut_bool Try.underlying4 _) trodAll_mk0))
    (fun sp hsp => by
      have t := trodAll_cons_mk (trod_keeps (sp := sp) (by kernel_rfl) (of_decide_eq_true (by kernel_rfl)) h0k hg (fun x hx => hW'.lt x hx) (fun x hx => hsp x hx)) trodAll_mk0
      rw [List.append_nil] at t
      exact t) (fun _ _ => rfl) (by simp)
    hg (ok_one (by kernel_rfl) rfl (okWide_bool_mk Try.underlying4 _))⟩

set_option maxRecDepth 100000 in
theorem over : Rows.objectOutsideRow.holds Try.pinned (OpenSpec.ofChange Rows.objectOutsideSpec) :=
  OpenClaim.holds_of_wide 8 Try.f8 rfl rfl rfl rfl rfl rfl rfl ⟨rfl, rfl, rfl, rfl, rfl⟩ rfl rfl rfl rfl rfl (by kernel_rfl) Try.func8 (by kernel_rfl)
    (of_decide_eq_true (by kernel_rfl)) (by unfold Func.isWrapper; first | (rw [if_pos (by decide +kernel)]; kernel_rfl) | (rw [if_neg (by decide +kernel)]; exact ⟨rfl, rfl⟩))
    (fun os started H enc _ => lifted os started H enc)

theorem proved : Rows.ObjectOutsideSaid :=
  over
#print axioms proved
end Go.Proofs.Ytmdejmdfohgpoaa.LObjectOutside
