/- What makes a twin (twin.copied): contracts, where the words are there and where they aren't. -/
import Derived.Test.YtgcpkgogjcgfbaaTw3
import Derived.Test.YtgcpkgogjcgfbaaTwp
namespace Go.Proofs.Ytgcpkgogjcgfbaa
open Go.ChangeShapes Go.WideShapes Go.ChangeAt Go.RowKit
set_option linter.unusedVariables false
set_option linter.unusedSimpArgs false

theorem app2 (v b c : Value) : (#[v] ++ #[b, c] : Array Value) = #[v, b, c] := rfl
theorem app3 (v b c d : Value) : (#[v] ++ #[b, c, d] : Array Value) = #[v, b, c, d] := rfl

/-- What the row comes to. -/
def CpPhi (w : World) (m : Me) (s a l x y A : Int) (Bb : Nat) (r : Rv) (er : Int) (w' : World) : Prop :=
  er = 0 ∧ ∃ P' Q' c' d', r = ⟨(m.cpm s a A).n, P', Q', c', d', s, a + m.wn A, l, x, y⟩ ∧ Sits w' (m.cpm s a A) P' Q' c' d' ∧ Fr w P' Q' ∧ Blk w' Bb 44 #[.int .u64 (adr s a)]
theorem Kp.l {a b : Nat} {w w' : World} (h : Kp [a] w w') : Kp [a, b] w w' := h.mono (by simp)
theorem Kp.r {a b : Nat} {w w' : World} (h : Kp [b] w w') : Kp [a, b] w w' := h.mono (by simp)
theorem cp_run (m : Me) (s a l x y A : Int) (P Q : Addr) (c d n0 Ba Bn Bb : Nat) (w : World) (hc : Cp m s a l A) (hA : U64 A) (hm : Sits w m P Q c d) (h1 : Ba < Bn) (h2 : Bn < Bb)
    (hBa : Blk w Ba 44 #[.int .u64 A]) (hBn : Blk w Bn 3 #[.int .i64 0]) (hBb : Blk w Bb 44 #[.int .u64 0]) :
    RunR [Bn, Bb] n0 (CpPhi w m s a l x y A Bb) [(86, #[bx Ba, bx Bn]), (88, #[bx Bn, bx Bb]), (90, #[bx Ba, bx Bb, bx Bn]), (92, #[bx Ba, bx Bb])] ⟨m.n, P, Q, c, d, s, a, l, x, y⟩ w := by
  have hw := hc.wn
  have hpl := hc.pl
  refine ⟨Try.call86, fun w0 k0 => ?_⟩
  have m0 := hm.kr k0
  have a0 := hBa.kr k0 (by simp)
  have n0' := hBn.kr k0 (by simp)
  have b0 := hBb.kr k0 (by simp)
  rw [app2]
  refine (cp_c1 m A P Q c d s a l x y 0 Ba Bn w0 m0 hA hc.wf hc.kn a0 n0' (by omega)).mono ?_
  rintro e w1 ⟨rfl, k1, n1⟩
  have m1 := m0.kp k1 (.one n0')
  have a1 := a0.kp k1 (by simp; omega)
  have b1 := b0.kp k1 (by simp; omega)
  refine ⟨⟨m.n, P, Q, c, d, s, a, l, x, y⟩, 0, rfl, .of_kp k1.l, fun h => absurd rfl h, fun _ => ?_⟩
  refine ⟨Try.call88, fun w2 k2 => ?_⟩
  have m2 := m1.kr k2
  have a2 := a1.kr k2 (by simp)
  have n2 := n1.kr k2 (by simp)
  have b2 := b1.kr k2 (by simp)
  rw [app2]
  refine (cp_c2 m P Q c d s a l x y (m.wn A) 0 Bn Bb w2 ⟨hc.rg, by omega, hc.fit⟩ n2 b2 (by omega)).mono ?_
  rintro e w3 ⟨rfl, k3, b3⟩
  have m3 := m2.kp k3 (.one b2)
  have a3 := a2.kp k3 (by simp; omega)
  have n3 := n2.kp k3 (by simp; omega)
  refine ⟨⟨m.n, P, Q, c, d, s, a + m.wn A, l, x, y⟩, 0, rfl, .of_kp k3.r, fun h => absurd rfl h, fun _ => ?_⟩
  refine ⟨Try.call90, fun w4 k4 => ?_⟩
  have m4 := m3.kr k4
  have a4 := a3.kr k4 (by simp)
  have n4 := n3.kr k4 (by simp)
  have b4 := b3.kr k4 (by simp)
  rw [app3]
  refine (cp_c3 m A (adr s a) (m.wn A) P Q c d s (a + m.wn A) l x y Ba Bb Bn w4 m4 hA (adr_u64 hc.rg.1 hpl.1 hpl.2.2.1) hc.mvok a4 b4 n4).mono ?_
  rintro e w5 ⟨P5, Q5, c5, d5, rfl, m5, u5, f5⟩
  have a5 := a4.up u5
  have b5 := b4.up u5
  refine ⟨⟨(m.mv A (adr s a) (m.wn A)).n, P5, Q5, c5, d5, s, a + m.wn A, l, x, y⟩, 0, rfl, .of_up u5, fun h => absurd rfl h, fun _ => ?_⟩
  refine ⟨Try.call92, fun w6 k6 => ?_⟩
  have m6 := m5.kr k6
  have a6 := a5.kr k6 (by simp)
  have b6 := b5.kr k6 (by simp)
  rw [app2]
  refine (cp_c4 (m.mv A (adr s a) (m.wn A)) A (adr s a) P5 Q5 c5 d5 s (a + m.wn A) l x y Ba Bb w6 m6 hA hc.mvw hc.mvkn hc.mvtw a6 b6).mono ?_
  rintro e w7 ⟨P7, Q7, c7, d7, rfl, m7, u7, f7⟩
  have b7 := b6.up u7
  rw [← hc.is] at m7 ⊢
  refine ⟨⟨(m.cpm s a A).n, P7, Q7, c7, d7, s, a + m.wn A, l, x, y⟩, 0, rfl, .of_up u7, fun h => absurd rfl h, fun _ => ?_⟩
  intro w8 k8
  refine ⟨rfl, P7, Q7, c7, d7, rfl, m7.kr k8, f7.up ?_, b7.kr k8 (by simp)⟩
  exact Nat.le_trans k0.size (Nat.le_trans k1.size (Nat.le_trans k2.size (Nat.le_trans k3.size (Nat.le_trans k4.size (Nat.le_trans u5.size k6.size)))))

set_option maxRecDepth 100000 in
set_option maxHeartbeats 4000000 in
/-- A twin is made. -/
theorem copied_ok (m : Me) (s a l x y A : Int) (P Q : Addr) (c d : Nat) (w : World) (hm : Sits w m P Q c d) (hc : Cp m s a l A) (hA : U64 A) :
    Calls Try.prog 66 #[rov m.n (sl P m.n c) (sl Q m.n d) s a l x y, .int .u64 A] w fun e w' => ∃ (P' Q' : Addr) (c' d' : Nat), e = .returned (.tuple #[rov (m.cpm s a A).n (sl P' (m.cpm s a A).n c') (sl Q' (m.cpm s a A).n d') s (a + m.wn A) l x y, .int .u64 (adr s a), .int .i64 0]) ∧ Sits w' (m.cpm s a A) P' Q' c' d' ∧ Up w w' ∧ Fr w P' Q' := by
  have HR := Lib.hid (fun (W : World) (n0 Ba Bn Bb : Nat) (hm : Sits W m P Q c d) => cp_run m s a l x y A P Q c d n0 Ba Bn Bb W hc hA hm)
  have HM := Lib.hid hm
  clear hm hc hA
  unfold CpPhi at HR
  generalize m.cpm s a A = K at HR ⊢
  generalize a + m.wn A = a' at HR ⊢
  generalize adr s a = u at HR ⊢
  go_enter Try.func66, Try.ntmps66
  go_wp2_with (fail)
  refine calls_at (fun V hV => ?_)
  have U0 : Up w V := by rw [hV]; exact ((((((Up.refl _).alloc _).alloc _).alloc _).alloc _).alloc _).alloc _
  have X0 : Blk V w.heap.size 31 (roc m.n (sl P m.n c) (sl Q m.n d) s a l x y) := by rw [hV]; exact (((((Blk.new' w rfl _ _).alloc _).alloc _).alloc _).alloc _).alloc _
  have A0 : Blk V (w.heap.size + 1) 44 #[.int .u64 A] := by rw [hV]; exact ((((Blk.new' _ (by simp) _ _).alloc _).alloc _).alloc _).alloc _
  have Z0 : Blk V (w.heap.size + 1 + 1) 31 zr := by rw [hV]; exact (((Blk.new' _ (by simp) _ _).alloc _).alloc _).alloc _
  have N0 : Blk V (w.heap.size + 1 + 1 + 1) 3 #[.int .i64 0] := by rw [hV]; exact ((Blk.new' _ (by simp) _ _).alloc _).alloc _
  have B0 : Blk V (w.heap.size + 1 + 1 + 1 + 1) 44 #[.int .u64 0] := by rw [hV]; exact (Blk.new' _ (by simp) _ _).alloc _
  have G0 : RowF V (w.heap.size + 1 + 1 + 1 + 1 + 1) [(86, #[bx (w.heap.size + 1), bx (w.heap.size + 1 + 1 + 1)]), (88, #[bx (w.heap.size + 1 + 1 + 1), bx (w.heap.size + 1 + 1 + 1 + 1)]), (90, #[bx (w.heap.size + 1), bx (w.heap.size + 1 + 1 + 1 + 1), bx (w.heap.size + 1 + 1 + 1)]), (92, #[bx (w.heap.size + 1), bx (w.heap.size + 1 + 1 + 1 + 1)])] := by rw [hV]; exact ⟨_, Blk.new' _ (by simp) _ _, rfl⟩
  clear hV
  have hsz := B0.lt
  refine (rdo_any [w.heap.size + 1 + 1 + 1, w.heap.size + 1 + 1 + 1 + 1] _ _ (w.heap.size + 1 + 1 + 1 + 1 + 1) 4 _ V (by simp) (by simp) (by simp <;> omega) (by simp; omega) G0 (HR.out V V.heap.size (w.heap.size + 1) (w.heap.size + 1 + 1 + 1) (w.heap.size + 1 + 1 + 1 + 1) (HM.out.up U0) (by omega) (by omega) A0 N0 B0)).mono ?_
  rintro e w1 ⟨r, er, rfl, k1, rfl, P', Q', c', d', rfl, sz, hF, B1⟩
  replace hF := Fr.up (a := w) hF U0.size
  have Z1 := Z0.kp k1 (by simp <;> omega)
  have U1 := U0.kp k1 (by simp; omega)
  clear X0 A0 Z0 N0 B0 G0 hsz U0 k1 HR HM
  simp only [Rv.v]
  go_wp2_with (fail)
  have T2 := Blk.new w1 31 #[.int .i64 K.n, .slice (some P') K.n c', .slice (some Q') K.n d', .int .i64 s, .int .i64 a', .int .i64 l, .int .i64 x, .int .i64 y]
  have h12 : Up w1 (w1.alloc (.cells #[.int .i64 K.n, .slice (some P') K.n c', .slice (some Q') K.n d', .int .i64 s, .int .i64 a', .int .i64 l, .int .i64 x, .int .i64 y] 31)) := (Up.refl w1).alloc _
  have hne : w.heap.size + 1 + 1 < w1.heap.size := Z1.lt
  generalize w1.alloc (.cells #[.int .i64 K.n, .slice (some P') K.n c', .slice (some Q') K.n d', .int .i64 s, .int .i64 a', .int .i64 l, .int .i64 x, .int .i64 y] 31) = w2 at T2 h12 ⊢
  replace Z1 := Z1.up h12
  replace B1 := B1.up h12
  replace U1 := U1.trans h12
  replace sz := sz.up h12
  generalize w1.heap.size = G at T2 hne ⊢
  clear h12
  have hwZ : w.heap.size ≤ w.heap.size + 1 + 1 := by omega
  have i1 : ¬ G = w.heap.size + 1 + 1 := by omega
  have i2 : ¬ w.heap.size + 1 + 1 + 1 + 1 = w.heap.size + 1 + 1 := by omega
  generalize w.heap.size + 1 + 1 + 1 + 1 = gB at B1 i2 ⊢
  generalize w.heap.size + 1 + 1 + 1 = gN at ⊢
  generalize w.heap.size + 1 + 1 = gZ at Z1 i1 i2 hwZ ⊢
  have T2c := T2.cell
  have Z1c := Z1.cell
  have Z1f := Z1.frozen
  have Z1l := Z1.lt
  have B1c := B1.cell
  have B1l := B1.lt
  simp only [zr] at Z1c
  clear hne
  go_region_held3 (fun w' => (∀ i, w'.cell? ⟨G, i, none⟩ = (#[.int .i64 K.n, .slice (some P') K.n c', .slice (some Q') K.n d', .int .i64 s, .int .i64 a', .int .i64 l, .int .i64 x, .int .i64 y] : Array Value)[i]?) ∧ (∀ i, w'.cell? ⟨gB, i, none⟩ = (#[.int .u64 u] : Array Value)[i]?))
    (first
      | with_reducible exact ⟨fun i => T2.drew.cell i, fun i => B1.drew.cell i⟩
      | with_reducible exact ⟨fun i => (T2.far8 i1 _ _ _ _ _ _ _ _).drew.cell i, fun i => (B1.far8 i2 _ _ _ _ _ _ _ _).drew.cell i⟩)
    (fail)
  all_goals
    go_wp2_with (fail)
    refine bodyPost_ret (ret_room3 rfl _ _ _ K.n s a' l x y (sl P' K.n c') (sl Q' K.n d') _ _ rfl (Z1.set8 _ _ _ _ _ _ _ _).drew rfl rfl) rfl ?_
    exact ⟨P', Q', c', d', rfl, (sz.far8 Z1 _ _ _ _ _ _ _ _).up (Up.refl _).drew, (U1.set8 hwZ _ _ _ _ _ _ _ _).drew, hF⟩

/-- What the row comes to, where the words aren't there. -/
def CfPhi (r : Rv) (er : Int) (w' : World) : Prop := er = 4
theorem cf_run (m : Me) (s a l x y A : Int) (P Q : Addr) (c d n0 Ba Bn Bb : Nat) (w : World) (hr : rgt s a l) (hf : l - a < m.wn A) (hwf : m.wf) (hk : m.kne A = 0) (hA : U64 A) (hm : Sits w m P Q c d) (h1 : Ba < Bn) (h2 : Bn < Bb)
    (hBa : Blk w Ba 44 #[.int .u64 A]) (hBn : Blk w Bn 3 #[.int .i64 0]) (hBb : Blk w Bb 44 #[.int .u64 0]) :
    RunR [Bn, Bb] n0 CfPhi [(86, #[bx Ba, bx Bn]), (88, #[bx Bn, bx Bb]), (90, #[bx Ba, bx Bb, bx Bn]), (92, #[bx Ba, bx Bb])] ⟨m.n, P, Q, c, d, s, a, l, x, y⟩ w := by
  have hw := (kne_wdn hk).2.2.2
  refine ⟨Try.call86, fun w0 k0 => ?_⟩
  have m0 := hm.kr k0
  have a0 := hBa.kr k0 (by simp)
  have n0' := hBn.kr k0 (by simp)
  have b0 := hBb.kr k0 (by simp)
  rw [app2]
  refine (cp_c1 m A P Q c d s a l x y 0 Ba Bn w0 m0 hA hwf hk a0 n0' (by omega)).mono ?_
  rintro e w1 ⟨rfl, k1, n1⟩
  have b1 := b0.kp k1 (by simp; omega)
  refine ⟨⟨m.n, P, Q, c, d, s, a, l, x, y⟩, 0, rfl, .of_kp k1.l, fun h => absurd rfl h, fun _ => ?_⟩
  refine ⟨Try.call88, fun w2 k2 => ?_⟩
  have n2 := n1.kr k2 (by simp)
  have b2 := b1.kr k2 (by simp)
  rw [app2]
  refine (cp_c2f m P Q c d s a l x y (m.wn A) 0 Bn Bb w2 hr (by omega) hf n2 b2 (by omega)).mono ?_
  rintro e w3 ⟨rfl, k3⟩
  exact ⟨⟨m.n, P, Q, c, d, s, a, l, x, y⟩, 4, rfl, .of_kp k3.r, fun _ _ _ => rfl, fun h => absurd h (by decide)⟩

set_option maxRecDepth 100000 in
set_option maxHeartbeats 4000000 in
/-- The words of a twin aren't there. -/
theorem copied_no (m : Me) (s a l x y A : Int) (P Q : Addr) (c d : Nat) (w : World) (hm : Sits w m P Q c d) (hr : rgt s a l) (hf : l - a < m.wn A) (hwf : m.wf) (hk : m.kne A = 0) (hA : U64 A) :
    Calls Try.prog 66 #[rov m.n (sl P m.n c) (sl Q m.n d) s a l x y, .int .u64 A] w fun e w' => e = .returned (.tuple #[rov m.n (sl P m.n c) (sl Q m.n d) s a l x y, .int .u64 0, .int .i64 4]) ∧ Up w w' := by
  have HR := Lib.hid (fun (W : World) (n0 Ba Bn Bb : Nat) (hm : Sits W m P Q c d) => cf_run m s a l x y A P Q c d n0 Ba Bn Bb W hr hf hwf hk hA hm)
  have HM := Lib.hid hm
  clear hm hr hf hwf hk hA
  go_enter Try.func66, Try.ntmps66
  go_wp2_with (fail)
  refine calls_at (fun V hV => ?_)
  have U0 : Up w V := by rw [hV]; exact ((((((Up.refl _).alloc _).alloc _).alloc _).alloc _).alloc _).alloc _
  have X0 : Blk V w.heap.size 31 (roc m.n (sl P m.n c) (sl Q m.n d) s a l x y) := by rw [hV]; exact (((((Blk.new' w rfl _ _).alloc _).alloc _).alloc _).alloc _).alloc _
  have A0 : Blk V (w.heap.size + 1) 44 #[.int .u64 A] := by rw [hV]; exact ((((Blk.new' _ (by simp) _ _).alloc _).alloc _).alloc _).alloc _
  have Z0 : Blk V (w.heap.size + 1 + 1) 31 zr := by rw [hV]; exact (((Blk.new' _ (by simp) _ _).alloc _).alloc _).alloc _
  have N0 : Blk V (w.heap.size + 1 + 1 + 1) 3 #[.int .i64 0] := by rw [hV]; exact ((Blk.new' _ (by simp) _ _).alloc _).alloc _
  have B0 : Blk V (w.heap.size + 1 + 1 + 1 + 1) 44 #[.int .u64 0] := by rw [hV]; exact (Blk.new' _ (by simp) _ _).alloc _
  have G0 : RowF V (w.heap.size + 1 + 1 + 1 + 1 + 1) [(86, #[bx (w.heap.size + 1), bx (w.heap.size + 1 + 1 + 1)]), (88, #[bx (w.heap.size + 1 + 1 + 1), bx (w.heap.size + 1 + 1 + 1 + 1)]), (90, #[bx (w.heap.size + 1), bx (w.heap.size + 1 + 1 + 1 + 1), bx (w.heap.size + 1 + 1 + 1)]), (92, #[bx (w.heap.size + 1), bx (w.heap.size + 1 + 1 + 1 + 1)])] := by rw [hV]; exact ⟨_, Blk.new' _ (by simp) _ _, rfl⟩
  clear hV
  have hsz := B0.lt
  refine (rdo_any [w.heap.size + 1 + 1 + 1, w.heap.size + 1 + 1 + 1 + 1] _ _ (w.heap.size + 1 + 1 + 1 + 1 + 1) 4 _ V (by simp) (by simp) (by simp <;> omega) (by simp; omega) G0 (HR.out V V.heap.size (w.heap.size + 1) (w.heap.size + 1 + 1 + 1) (w.heap.size + 1 + 1 + 1 + 1) (HM.out.up U0) (by omega) (by omega) A0 N0 B0)).mono ?_
  rintro e w1 ⟨⟨n', P', Q', c', d', s', a', l', x', y'⟩, er, rfl, k1, he⟩
  obtain rfl : er = 4 := he
  have X1 := X0.kp k1 (by simp <;> omega)
  have Z1 := Z0.kp k1 (by simp <;> omega)
  have U1 := U0.kp k1 (by simp; omega)
  clear X0 A0 Z0 N0 B0 G0 hsz U0 k1 HR HM
  have Z1c := Z1.cell
  have Z1f := Z1.frozen
  have Z1l := Z1.lt
  have X1c := X1.cell
  have X1l := X1.lt
  simp only [zr, roc] at Z1c X1c
  simp only [Rv.v]
  go_wp2_with (fail)
  refine bodyPost_ret (ret_room3 rfl _ _ _ m.n s a l x y (sl P m.n c) (sl Q m.n d) _ _ rfl ((Z1.set8 _ _ _ _ _ _ _ _).alloc _) rfl rfl) rfl ?_
  exact ⟨rfl, (U1.set8 (by omega) _ _ _ _ _ _ _ _).alloc _⟩
end Go.Proofs.Ytgcpkgogjcgfbaa
