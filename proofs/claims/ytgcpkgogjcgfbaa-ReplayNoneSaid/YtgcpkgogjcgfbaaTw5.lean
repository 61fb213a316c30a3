/- An object's twin (twin.To), and whether it has one (twin.Made): contracts. -/
import Derived.Test.YtgcpkgogjcgfbaaTw4
namespace Go.Proofs.Ytgcpkgogjcgfbaa
open Go.ChangeShapes Go.WideShapes Go.ChangeAt Go.RowKit
set_option linter.unusedVariables false
set_option linter.unusedSimpArgs false

/-- A room with memory, an address and an error. -/
def ToPost (w : World) (P Q : Addr) (m : Me) (s a l x y b er : Int) (e : Ending) (w' : World) : Prop :=
  ∃ (P' Q' : Addr) (c' d' : Nat), e = .returned (.tuple #[rov m.n (sl P' m.n c') (sl Q' m.n d') s a l x y, .int .u64 b, .int .i64 er]) ∧ Sits w' m P' Q' c' d' ∧ Up w w' ∧ ((P' = P ∧ Q' = Q) ∨ Fr w P' Q')

set_option maxRecDepth 100000 in
set_option maxHeartbeats 4000000 in
/-- There is no object. -/
theorem to_err (m : Me) (s a l x y A k b : Int) (P Q : Addr) (c d : Nat) (w : World) (hm : Sits w m P Q c d) (hA : U64 A) (hwf : m.wf) (hk : m.kne A = k) (hb : ovr s [A, m.twv A] = b) (h0 : A ≠ 0) (h1 : k ≠ 0) :
    Calls Try.prog 34 #[rov m.n (sl P m.n c) (sl Q m.n d) s a l x y, .int .u64 A] w (ToPost w P Q m s a l x y 0 k) := by
  have q0 : (A != 0) = true := bne_iff_ne.mpr h0
  have q1 : (k != 0) = true := bne_iff_ne.mpr h1
  clear h0 h1
  have ht := Lib.hid (fun (W : World) (U : Up w W) => twin_any m A P Q c d W (hm.up U) hA hwf)
  have ho := Lib.hid (fun (W : World) (g : Nat) (hp : Row W ⟨g, 0, none⟩ [A, m.twv A]) => over_any m.n s a l x y (sl P m.n c) (sl Q m.n d) [A, m.twv A] ⟨g, 0, none⟩ 2 W hp (by intro B hB; simp at hB; rcases hB with rfl | rfl; exact hA; exact twv_u64 hwf A) (by simp))
  rw [hk] at ht
  rw [hb] at ho
  skip
  generalize m.twv A = tv at ht ho 
  have HM := Lib.hid hm
  clear hm hA hwf hk hb
  go_enter Try.func34, Try.ntmps34
  go_wp2_with (fail)
  refine calls_at (fun V hV => ?_)
  have U0 : Up w V := by rw [hV]; exact ((Up.refl _).alloc _).alloc _
  have X0 : Blk V w.heap.size 31 (roc m.n (sl P m.n c) (sl Q m.n d) s a l x y) := by rw [hV]; exact (Blk.new' w rfl _ _).alloc _
  have Z0 : Blk V (w.heap.size + 1) 31 zr := by rw [hV]; exact Blk.new' _ (by simp) _ _
  clear hV
  refine (ht.out V U0).mono ?_
  rintro e w1 ⟨rfl, h1⟩
  have U1 := U0.trans h1
  have X1 := X0.up h1
  have Z1 := Z0.up h1
  clear h1 X0 Z0 U0 ht
  have X1c := X1.cell
  simp only [roc] at X1c
  go_wp2_with (fail)
  refine calls_at (fun V2 hV2 => ?_)
  have h12 : Up w1 V2 := by rw [hV2]; exact (Up.refl w1).alloc _
  have R2 : Row V2 ⟨w1.heap.size, 0, none⟩ [A, tv] := by rw [hV2]; exact row_of_blk (t := 44) (Blk.new w1 _ _)
  clear hV2
  refine (ho.out V2 w1.heap.size R2).mono ?_
  rintro e w3 ⟨rfl, h23⟩
  have h13 := h12.trans h23
  have U3 := U1.trans h13
  have X3 := X1.up h13
  have Z3 := Z1.up h13
  clear h12 h23 h13 X1 Z1 U1 X1c R2 ho
  have X3c := X3.cell
  have X3l := X3.lt
  have Z3c := Z3.cell
  have Z3f := Z3.frozen
  have Z3l := Z3.lt
  simp only [zr, roc] at X3c Z3c
  go_wp2_with (fail)
  refine bodyPost_ret (ret_room3 rfl _ _ _ m.n s a l x y (sl P m.n c) (sl Q m.n d) _ _ rfl (Z3.set8 _ _ _ _ _ _ _ _) rfl rfl) rfl ?_
  exact ⟨P, Q, c, d, rfl, (HM.out.up U3).far8 Z3 _ _ _ _ _ _ _ _, U3.set8 (by omega) _ _ _ _ _ _ _ _, .inl ⟨rfl, rfl⟩⟩

set_option maxRecDepth 100000 in
set_option maxHeartbeats 4000000 in
/-- Nothing has nothing for its twin. -/
theorem to_zero (m : Me) (s a l x y A k b : Int) (P Q : Addr) (c d : Nat) (w : World) (hm : Sits w m P Q c d) (hA : U64 A) (hwf : m.wf) (hk : m.kne A = k) (hb : ovr s [A, m.twv A] = b) (h0 : A = 0) :
    Calls Try.prog 34 #[rov m.n (sl P m.n c) (sl Q m.n d) s a l x y, .int .u64 A] w (ToPost w P Q m s a l x y b 0) := by
  have q0 : (A != 0) = false := by rw [h0]; rfl
  have q1 : (A == 0) = true := by rw [h0]; rfl
  clear h0
  have ht := Lib.hid (fun (W : World) (U : Up w W) => twin_any m A P Q c d W (hm.up U) hA hwf)
  have ho := Lib.hid (fun (W : World) (g : Nat) (hp : Row W ⟨g, 0, none⟩ [A, m.twv A]) => over_any m.n s a l x y (sl P m.n c) (sl Q m.n d) [A, m.twv A] ⟨g, 0, none⟩ 2 W hp (by intro B hB; simp at hB; rcases hB with rfl | rfl; exact hA; exact twv_u64 hwf A) (by simp))
  rw [hk] at ht
  rw [hb] at ho
  skip
  generalize m.twv A = tv at ht ho 
  have HM := Lib.hid hm
  clear hm hA hwf hk hb
  go_enter Try.func34, Try.ntmps34
  go_wp2_with (fail)
  refine calls_at (fun V hV => ?_)
  have U0 : Up w V := by rw [hV]; exact ((Up.refl _).alloc _).alloc _
  have X0 : Blk V w.heap.size 31 (roc m.n (sl P m.n c) (sl Q m.n d) s a l x y) := by rw [hV]; exact (Blk.new' w rfl _ _).alloc _
  have Z0 : Blk V (w.heap.size + 1) 31 zr := by rw [hV]; exact Blk.new' _ (by simp) _ _
  clear hV
  refine (ht.out V U0).mono ?_
  rintro e w1 ⟨rfl, h1⟩
  have U1 := U0.trans h1
  have X1 := X0.up h1
  have Z1 := Z0.up h1
  clear h1 X0 Z0 U0 ht
  have X1c := X1.cell
  simp only [roc] at X1c
  go_wp2_with (fail)
  refine calls_at (fun V2 hV2 => ?_)
  have h12 : Up w1 V2 := by rw [hV2]; exact (Up.refl w1).alloc _
  have R2 : Row V2 ⟨w1.heap.size, 0, none⟩ [A, tv] := by rw [hV2]; exact row_of_blk (t := 44) (Blk.new w1 _ _)
  clear hV2
  refine (ho.out V2 w1.heap.size R2).mono ?_
  rintro e w3 ⟨rfl, h23⟩
  have h13 := h12.trans h23
  have U3 := U1.trans h13
  have X3 := X1.up h13
  have Z3 := Z1.up h13
  clear h12 h23 h13 X1 Z1 U1 X1c R2 ho
  have X3c := X3.cell
  have X3l := X3.lt
  have Z3c := Z3.cell
  have Z3f := Z3.frozen
  have Z3l := Z3.lt
  simp only [zr, roc] at X3c Z3c
  go_wp2_with (fail)
  refine bodyPost_ret (ret_room3 rfl _ _ _ m.n s a l x y (sl P m.n c) (sl Q m.n d) _ _ rfl (Z3.set8 _ _ _ _ _ _ _ _) rfl rfl) rfl ?_
  exact ⟨P, Q, c, d, rfl, (HM.out.up U3).far8 Z3 _ _ _ _ _ _ _ _, U3.set8 (by omega) _ _ _ _ _ _ _ _, .inl ⟨rfl, rfl⟩⟩

set_option maxRecDepth 100000 in
set_option maxHeartbeats 4000000 in
/-- It is over there, or its twin is. -/
theorem to_over (m : Me) (s a l x y A k b : Int) (P Q : Addr) (c d : Nat) (w : World) (hm : Sits w m P Q c d) (hA : U64 A) (hwf : m.wf) (hk : m.kne A = k) (hb : ovr s [A, m.twv A] = b) (h0 : A ≠ 0) (h1 : k = 0) (h2 : b ≠ 0) :
    Calls Try.prog 34 #[rov m.n (sl P m.n c) (sl Q m.n d) s a l x y, .int .u64 A] w (ToPost w P Q m s a l x y b 0) := by
  have q0 : (A != 0) = true := bne_iff_ne.mpr h0
  have q1 : (A == 0) = false := beq_eq_false_iff_ne.mpr h0
  have q2 : (b != 0) = true := bne_iff_ne.mpr h2
  subst h1
  clear h0 h2
  have ht := Lib.hid (fun (W : World) (U : Up w W) => twin_any m A P Q c d W (hm.up U) hA hwf)
  have ho := Lib.hid (fun (W : World) (g : Nat) (hp : Row W ⟨g, 0, none⟩ [A, m.twv A]) => over_any m.n s a l x y (sl P m.n c) (sl Q m.n d) [A, m.twv A] ⟨g, 0, none⟩ 2 W hp (by intro B hB; simp at hB; rcases hB with rfl | rfl; exact hA; exact twv_u64 hwf A) (by simp))
  rw [hk] at ht
  rw [hb] at ho
  skip
  generalize m.twv A = tv at ht ho 
  have HM := Lib.hid hm
  clear hm hA hwf hk hb
  go_enter Try.func34, Try.ntmps34
  go_wp2_with (fail)
  refine calls_at (fun V hV => ?_)
  have U0 : Up w V := by rw [hV]; exact ((Up.refl _).alloc _).alloc _
  have X0 : Blk V w.heap.size 31 (roc m.n (sl P m.n c) (sl Q m.n d) s a l x y) := by rw [hV]; exact (Blk.new' w rfl _ _).alloc _
  have Z0 : Blk V (w.heap.size + 1) 31 zr := by rw [hV]; exact Blk.new' _ (by simp) _ _
  clear hV
  refine (ht.out V U0).mono ?_
  rintro e w1 ⟨rfl, h1⟩
  have U1 := U0.trans h1
  have X1 := X0.up h1
  have Z1 := Z0.up h1
  clear h1 X0 Z0 U0 ht
  have X1c := X1.cell
  simp only [roc] at X1c
  go_wp2_with (fail)
  refine calls_at (fun V2 hV2 => ?_)
  have h12 : Up w1 V2 := by rw [hV2]; exact (Up.refl w1).alloc _
  have R2 : Row V2 ⟨w1.heap.size, 0, none⟩ [A, tv] := by rw [hV2]; exact row_of_blk (t := 44) (Blk.new w1 _ _)
  clear hV2
  refine (ho.out V2 w1.heap.size R2).mono ?_
  rintro e w3 ⟨rfl, h23⟩
  have h13 := h12.trans h23
  have U3 := U1.trans h13
  have X3 := X1.up h13
  have Z3 := Z1.up h13
  clear h12 h23 h13 X1 Z1 U1 X1c R2 ho
  have X3c := X3.cell
  have X3l := X3.lt
  have Z3c := Z3.cell
  have Z3f := Z3.frozen
  have Z3l := Z3.lt
  simp only [zr, roc] at X3c Z3c
  go_wp2_with (fail)
  refine bodyPost_ret (ret_room3 rfl _ _ _ m.n s a l x y (sl P m.n c) (sl Q m.n d) _ _ rfl (Z3.set8 _ _ _ _ _ _ _ _) rfl rfl) rfl ?_
  exact ⟨P, Q, c, d, rfl, (HM.out.up U3).far8 Z3 _ _ _ _ _ _ _ _, U3.set8 (by omega) _ _ _ _ _ _ _ _, .inl ⟨rfl, rfl⟩⟩

set_option maxRecDepth 100000 in
set_option maxHeartbeats 4000000 in
/-- Its twin isn't over there. -/
theorem to_form (m : Me) (s a l x y A k b : Int) (P Q : Addr) (c d : Nat) (w : World) (hm : Sits w m P Q c d) (hA : U64 A) (hwf : m.wf) (hk : m.kne A = k) (hb : ovr s [A, m.twv A] = b) (h0 : A ≠ 0) (h1 : k = 0) (h2 : b = 0) (h3 : m.twv A ≠ 0) :
    Calls Try.prog 34 #[rov m.n (sl P m.n c) (sl Q m.n d) s a l x y, .int .u64 A] w (ToPost w P Q m s a l x y 0 10) := by
  have q0 : (A != 0) = true := bne_iff_ne.mpr h0
  have q1 : (A == 0) = false := beq_eq_false_iff_ne.mpr h0
  have q3 : (m.twv A != 0) = true := bne_iff_ne.mpr h3
  subst h1 h2
  clear h0 h3
  have ht := Lib.hid (fun (W : World) (U : Up w W) => twin_any m A P Q c d W (hm.up U) hA hwf)
  have ho := Lib.hid (fun (W : World) (g : Nat) (hp : Row W ⟨g, 0, none⟩ [A, m.twv A]) => over_any m.n s a l x y (sl P m.n c) (sl Q m.n d) [A, m.twv A] ⟨g, 0, none⟩ 2 W hp (by intro B hB; simp at hB; rcases hB with rfl | rfl; exact hA; exact twv_u64 hwf A) (by simp))
  rw [hk] at ht
  rw [hb] at ho
  skip
  generalize m.twv A = tv at ht ho q3
  have HM := Lib.hid hm
  clear hm hA hwf hk hb
  go_enter Try.func34, Try.ntmps34
  go_wp2_with (fail)
  refine calls_at (fun V hV => ?_)
  have U0 : Up w V := by rw [hV]; exact ((Up.refl _).alloc _).alloc _
  have X0 : Blk V w.heap.size 31 (roc m.n (sl P m.n c) (sl Q m.n d) s a l x y) := by rw [hV]; exact (Blk.new' w rfl _ _).alloc _
  have Z0 : Blk V (w.heap.size + 1) 31 zr := by rw [hV]; exact Blk.new' _ (by simp) _ _
  clear hV
  refine (ht.out V U0).mono ?_
  rintro e w1 ⟨rfl, h1⟩
  have U1 := U0.trans h1
  have X1 := X0.up h1
  have Z1 := Z0.up h1
  clear h1 X0 Z0 U0 ht
  have X1c := X1.cell
  simp only [roc] at X1c
  go_wp2_with (fail)
  refine calls_at (fun V2 hV2 => ?_)
  have h12 : Up w1 V2 := by rw [hV2]; exact (Up.refl w1).alloc _
  have R2 : Row V2 ⟨w1.heap.size, 0, none⟩ [A, tv] := by rw [hV2]; exact row_of_blk (t := 44) (Blk.new w1 _ _)
  clear hV2
  refine (ho.out V2 w1.heap.size R2).mono ?_
  rintro e w3 ⟨rfl, h23⟩
  have h13 := h12.trans h23
  have U3 := U1.trans h13
  have X3 := X1.up h13
  have Z3 := Z1.up h13
  clear h12 h23 h13 X1 Z1 U1 X1c R2 ho
  have X3c := X3.cell
  have X3l := X3.lt
  have Z3c := Z3.cell
  have Z3f := Z3.frozen
  have Z3l := Z3.lt
  simp only [zr, roc] at X3c Z3c
  go_wp2_with (fail)
  refine bodyPost_ret (ret_room3 rfl _ _ _ m.n s a l x y (sl P m.n c) (sl Q m.n d) _ _ rfl (Z3.set8 _ _ _ _ _ _ _ _) rfl rfl) rfl ?_
  exact ⟨P, Q, c, d, rfl, (HM.out.up U3).far8 Z3 _ _ _ _ _ _ _ _, U3.set8 (by omega) _ _ _ _ _ _ _ _, .inl ⟨rfl, rfl⟩⟩

set_option maxRecDepth 100000 in
set_option maxHeartbeats 4000000 in
/-- The words aren't there. -/
theorem to_full (m : Me) (s a l x y A k b : Int) (P Q : Addr) (c d : Nat) (w : World) (hm : Sits w m P Q c d) (hA : U64 A) (hwf : m.wf) (hk : m.kne A = k) (hb : ovr s [A, m.twv A] = b) (h0 : A ≠ 0) (h1 : k = 0) (h2 : b = 0) (h3 : m.twv A = 0) (hr : rgt s a l) (hf : l - a < m.wn A) :
    Calls Try.prog 34 #[rov m.n (sl P m.n c) (sl Q m.n d) s a l x y, .int .u64 A] w (ToPost w P Q m s a l x y 0 4) := by
  have q0 : (A != 0) = true := bne_iff_ne.mpr h0
  have q1 : (A == 0) = false := beq_eq_false_iff_ne.mpr h0
  have q3 : (m.twv A != 0) = false := by rw [h3]; rfl
  subst h1 h2
  have hc := Lib.hid (fun (W : World) (U : Up w W) => copied_no m s a l x y A P Q c d W (hm.up U) hr hf hwf hk hA)
  clear h0 h3 hr hf
  have ht := Lib.hid (fun (W : World) (U : Up w W) => twin_any m A P Q c d W (hm.up U) hA hwf)
  have ho := Lib.hid (fun (W : World) (g : Nat) (hp : Row W ⟨g, 0, none⟩ [A, m.twv A]) => over_any m.n s a l x y (sl P m.n c) (sl Q m.n d) [A, m.twv A] ⟨g, 0, none⟩ 2 W hp (by intro B hB; simp at hB; rcases hB with rfl | rfl; exact hA; exact twv_u64 hwf A) (by simp))
  rw [hk] at ht
  rw [hb] at ho
  skip
  generalize m.twv A = tv at ht ho q3
  have HM := Lib.hid hm
  clear hm hA hwf hk hb
  go_enter Try.func34, Try.ntmps34
  go_wp2_with (fail)
  refine calls_at (fun V hV => ?_)
  have U0 : Up w V := by rw [hV]; exact ((Up.refl _).alloc _).alloc _
  have X0 : Blk V w.heap.size 31 (roc m.n (sl P m.n c) (sl Q m.n d) s a l x y) := by rw [hV]; exact (Blk.new' w rfl _ _).alloc _
  have Z0 : Blk V (w.heap.size + 1) 31 zr := by rw [hV]; exact Blk.new' _ (by simp) _ _
  clear hV
  refine (ht.out V U0).mono ?_
  rintro e w1 ⟨rfl, h1⟩
  have U1 := U0.trans h1
  have X1 := X0.up h1
  have Z1 := Z0.up h1
  clear h1 X0 Z0 U0 ht
  have X1c := X1.cell
  simp only [roc] at X1c
  go_wp2_with (fail)
  refine calls_at (fun V2 hV2 => ?_)
  have h12 : Up w1 V2 := by rw [hV2]; exact (Up.refl w1).alloc _
  have R2 : Row V2 ⟨w1.heap.size, 0, none⟩ [A, tv] := by rw [hV2]; exact row_of_blk (t := 44) (Blk.new w1 _ _)
  clear hV2
  refine (ho.out V2 w1.heap.size R2).mono ?_
  rintro e w3 ⟨rfl, h23⟩
  have h13 := h12.trans h23
  have U3 := U1.trans h13
  have X3 := X1.up h13
  have Z3 := Z1.up h13
  clear h12 h23 h13 X1 Z1 U1 X1c R2 ho
  have X3c := X3.cell
  have X3l := X3.lt
  have Z3c := Z3.cell
  have Z3f := Z3.frozen
  have Z3l := Z3.lt
  simp only [zr, roc] at X3c Z3c
  go_wp2_with (fail)
  refine (hc.out w3 U3).mono ?_
  rintro e w4 ⟨rfl, h4⟩
  have U4 := U3.trans h4
  have Z4 := Z3.up h4
  clear h4 X3 Z3 U3 X3c X3l Z3c Z3f Z3l hc
  have Z4c := Z4.cell
  have Z4f := Z4.frozen
  have Z4l := Z4.lt
  simp only [zr] at Z4c
  go_wp2_with (fail)
  refine bodyPost_ret (ret_room3 rfl _ _ _ m.n s a l x y (sl P m.n c) (sl Q m.n d) _ _ rfl (Z4.set8 _ _ _ _ _ _ _ _) rfl rfl) rfl ?_
  exact ⟨P, Q, c, d, rfl, (HM.out.up U4).far8 Z4 _ _ _ _ _ _ _ _, U4.set8 (by omega) _ _ _ _ _ _ _ _, .inl ⟨rfl, rfl⟩⟩

set_option maxRecDepth 100000 in
set_option maxHeartbeats 4000000 in
/-- One is made. -/
theorem to_made (m : Me) (s a l x y A k b : Int) (P Q : Addr) (c d : Nat) (w : World) (hm : Sits w m P Q c d) (hA : U64 A) (hwf : m.wf) (hk : m.kne A = k) (hb : ovr s [A, m.twv A] = b) (h0 : A ≠ 0) (h1 : k = 0) (h2 : b = 0) (hcp : Cp m s a l A) :
    Calls Try.prog 34 #[rov m.n (sl P m.n c) (sl Q m.n d) s a l x y, .int .u64 A] w (ToPost w P Q (m.cpm s a A) s (a + m.wn A) l x y (adr s a) 0) := by
  have h3 := hcp.tw
  have q0 : (A != 0) = true := bne_iff_ne.mpr h0
  have q1 : (A == 0) = false := beq_eq_false_iff_ne.mpr h0
  have q3 : (m.twv A != 0) = false := by rw [h3]; rfl
  subst h1 h2
  have hc := Lib.hid (fun (W : World) (U : Up w W) => copied_ok m s a l x y A P Q c d W (hm.up U) hcp hA)
  generalize m.cpm s a A = K at hc ⊢
  generalize a + m.wn A = a' at hc ⊢
  generalize adr s a = u at hc ⊢
  clear h0 h3 hcp
  have ht := Lib.hid (fun (W : World) (U : Up w W) => twin_any m A P Q c d W (hm.up U) hA hwf)
  have ho := Lib.hid (fun (W : World) (g : Nat) (hp : Row W ⟨g, 0, none⟩ [A, m.twv A]) => over_any m.n s a l x y (sl P m.n c) (sl Q m.n d) [A, m.twv A] ⟨g, 0, none⟩ 2 W hp (by intro B hB; simp at hB; rcases hB with rfl | rfl; exact hA; exact twv_u64 hwf A) (by simp))
  rw [hk] at ht
  rw [hb] at ho
  skip
  generalize m.twv A = tv at ht ho q3
  have HM := Lib.hid hm
  clear hm hA hwf hk hb
  go_enter Try.func34, Try.ntmps34
  go_wp2_with (fail)
  refine calls_at (fun V hV => ?_)
  have U0 : Up w V := by rw [hV]; exact ((Up.refl _).alloc _).alloc _
  have X0 : Blk V w.heap.size 31 (roc m.n (sl P m.n c) (sl Q m.n d) s a l x y) := by rw [hV]; exact (Blk.new' w rfl _ _).alloc _
  have Z0 : Blk V (w.heap.size + 1) 31 zr := by rw [hV]; exact Blk.new' _ (by simp) _ _
  clear hV
  refine (ht.out V U0).mono ?_
  rintro e w1 ⟨rfl, h1⟩
  have U1 := U0.trans h1
  have X1 := X0.up h1
  have Z1 := Z0.up h1
  clear h1 X0 Z0 U0 ht
  have X1c := X1.cell
  simp only [roc] at X1c
  go_wp2_with (fail)
  refine calls_at (fun V2 hV2 => ?_)
  have h12 : Up w1 V2 := by rw [hV2]; exact (Up.refl w1).alloc _
  have R2 : Row V2 ⟨w1.heap.size, 0, none⟩ [A, tv] := by rw [hV2]; exact row_of_blk (t := 44) (Blk.new w1 _ _)
  clear hV2
  refine (ho.out V2 w1.heap.size R2).mono ?_
  rintro e w3 ⟨rfl, h23⟩
  have h13 := h12.trans h23
  have U3 := U1.trans h13
  have X3 := X1.up h13
  have Z3 := Z1.up h13
  clear h12 h23 h13 X1 Z1 U1 X1c R2 ho
  have X3c := X3.cell
  have X3l := X3.lt
  have Z3c := Z3.cell
  have Z3f := Z3.frozen
  have Z3l := Z3.lt
  simp only [zr, roc] at X3c Z3c
  go_wp2_with (fail)
  refine (hc.out w3 U3).mono ?_
  rintro e w4 ⟨P', Q', c', d', rfl, sz, h4, hF⟩
  replace hF := Fr.up (a := w) hF U3.size
  have U4 := U3.trans h4
  have Z4 := Z3.up h4
  clear h4 X3 Z3 U3 X3c X3l Z3c Z3f Z3l hc
  have Z4c := Z4.cell
  have Z4f := Z4.frozen
  have Z4l := Z4.lt
  simp only [zr] at Z4c
  go_wp2_with (fail)
  refine bodyPost_ret (ret_room3 rfl _ _ _ K.n s a' l x y (sl P' K.n c') (sl Q' K.n d') _ _ rfl (Z4.set8 _ _ _ _ _ _ _ _) rfl rfl) rfl ?_
  exact ⟨P', Q', c', d', rfl, sz.far8 Z4 _ _ _ _ _ _ _ _, U4.set8 (by omega) _ _ _ _ _ _ _ _, .inr hF⟩

/-- An object's twin. -/
theorem to_any (m : Me) (s a l x y A : Int) (P Q : Addr) (c d : Nat) (w : World) (hm : Sits w m P Q c d) (hA : U64 A) (hwf : m.wf) (hr : rgt s a l) (hl : l = m.n) :
    Calls Try.prog 34 #[rov m.n (sl P m.n c) (sl Q m.n d) s a l x y, .int .u64 A] w (ToPost w P Q (toa m s a l A).m s (toa m s a l A).a l x y (toa m s a l A).b (toa m s a l A).e) := by
  by_cases h0 : A = 0
  · rw [show toa m s a l A = ⟨m, a, 0, 0⟩ from if_pos h0]
    refine to_zero m s a l x y A _ 0 P Q c d w hm hA hwf rfl ?_ h0
    have hk : m.kne 0 ≠ 0 := fun q => by have := kne_whb q; revert this; decide
    rw [h0, show m.twv 0 = 0 from if_neg hk, ovr_2, ovb_0]
    rfl
  by_cases h1 : m.kne A = 0
  · by_cases h2 : ovb s A = true
    · rw [show toa m s a l A = ⟨m, a, A, 0⟩ from by unfold toa; rw [if_neg h0, if_neg (by simp [h1]), if_pos h2]]
      exact to_over m s a l x y A _ A P Q c d w hm hA hwf rfl (by rw [ovr_2, if_pos h2]) h0 h1 h0
    · have h2' : ovb s A = false := by simpa using h2
      have hno : ∀ B : Int, ovr s [A, B] = if ovb s B then B else 0 := fun B => by rw [ovr_2, if_neg h2]
      by_cases h3 : m.twv A = 0
      · have hb : ovr s [A, m.twv A] = 0 := by rw [hno, h3, ovb_0]; rfl
        by_cases h4 : l - a < m.wn A
        · rw [show toa m s a l A = ⟨m, a, 0, 4⟩ from by unfold toa; rw [if_neg h0, if_neg (by simp [h1]), if_neg h2, if_neg (by simp [h3]), if_pos h4]]
          exact to_full m s a l x y A _ 0 P Q c d w hm hA hwf rfl hb h0 h1 rfl h3 hr h4
        · rw [show toa m s a l A = ⟨m.cpm s a A, a + m.wn A, adr s a, 0⟩ from by unfold toa; rw [if_neg h0, if_neg (by simp [h1]), if_neg h2, if_neg (by simp [h3]), if_neg h4]]
          exact to_made m s a l x y A _ 0 P Q c d w hm hA hwf rfl hb h0 h1 rfl (toa_cp hm.1 hwf hr hl h1 h2' h3 h4)
      · by_cases h5 : ovb s (m.twv A) = true
        · rw [show toa m s a l A = ⟨m, a, m.twv A, 0⟩ from by unfold toa; rw [if_neg h0, if_neg (by simp [h1]), if_neg h2, if_pos h3, if_pos h5]]
          exact to_over m s a l x y A _ (m.twv A) P Q c d w hm hA hwf rfl (by rw [hno, if_pos h5]) h0 h1 h3
        · rw [show toa m s a l A = ⟨m, a, 0, 10⟩ from by unfold toa; rw [if_neg h0, if_neg (by simp [h1]), if_neg h2, if_pos h3, if_neg h5]]
          exact to_form m s a l x y A _ 0 P Q c d w hm hA hwf rfl (by rw [hno, if_neg h5]) h0 h1 rfl h3
  · rw [show toa m s a l A = ⟨m, a, 0, m.kne A⟩ from by unfold toa; rw [if_neg h0, if_pos h1]]
    exact to_err m s a l x y A (m.kne A) _ P Q c d w hm hA hwf rfl rfl h0 h1

/-- Has it one? -/
def mdb (m : Me) (s A : Int) : Bool := (A == 0) || (m.kne A == 0 && ((m.twv A != 0) || (ovr s [A] != 0)))

end Go.Proofs.Ytgcpkgogjcgfbaa
