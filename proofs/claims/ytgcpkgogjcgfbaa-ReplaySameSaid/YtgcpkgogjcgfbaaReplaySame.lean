/- The statement ReplaySame is proved for every input, from contracts of the functions that it calls; no condition is added. -/
import Derived.Test.YtgcpkgogjcgfbaaRpA
import Derived.Deep.RegionHeld3
import Derived.LoopN
namespace Go.Proofs.Ytgcpkgogjcgfbaa.LReplaySame
open Go.Joins Go.ChangeShapes Go.WideShapes Go.ChangeAt Go.RowKit Go.Deep
set_option linter.unusedVariables false
set_option linter.unusedSimpArgs false

set_option maxRecDepth 100000 in
set_option maxHeartbeats 8000000 in
theorem walk_no (N : Int) (A0 A1 : Option Addr) (n0 n1 c0 c1 : Nat) (s a l x y : Int) (A : Int) (hfew : fewr N n0 n1 s a l x y = false) (w : World) :
    Calls Try.prog 6 #[.agg #[.int .i64 N, .slice A0 n0 c0, .slice A1 n1 c1, .int .i64 s, .int .i64 a, .int .i64 l, .int .i64 x, .int .i64 y], .int .u64 A] w (fun e w' => e = .returned (.bool true) ∧ Up w w') := by
  have hf := fun w => fewr_any N s a l x y A0 A1 n0 n1 c0 c1 w
  rw [hfew] at hf
  have hf := Lib.hid hf
  go_enter Try.func6, Try.ntmps6
  go_wp2_with (fail)
  refine calls_at (fun V1 hV => ?_)
  have kv : Up w V1 := by rw [hV]; (repeat (first | with_reducible exact Up.refl _ | with_reducible refine Up.alloc ?_ _ | with_reducible refine Up.drew ?_ | refine Up.setCell ?_ (by simp <;> omega) _))
  have Xv : Blk V1 (w.heap.size) 31 #[.int .i64 N, .slice A0 n0 c0, .slice A1 n1 c1, .int .i64 s, .int .i64 a, .int .i64 l, .int .i64 x, .int .i64 y] := by rw [hV]; (repeat (first | with_reducible exact Blk.new' _ (by simp) _ _ | with_reducible refine Blk.alloc ?_ _ | with_reducible refine Blk.drew ?_ | refine Blk.far ?_ (by simp <;> omega) _))
  have Uv : Up w V1 := kv
  clear hV kv 
  refine (shown13 _).mono ?_
  rintro e w1 ⟨rfl, k1⟩
  have X1 := Xv.up k1
  have U1 := Uv.trans k1
  clear k1 Uv Xv 
  have X1c := X1.cell
  have X1f := X1.frozen
  have X1l := X1.lt
  go_wp2_with (fail)
  refine calls_at (fun V2 hV => ?_)
  have kv : Up w1 V2 := by rw [hV]; (repeat (first | with_reducible exact Up.refl _ | with_reducible refine Up.alloc ?_ _ | with_reducible refine Up.drew ?_ | refine Up.setCell ?_ (by simp <;> omega) _))
  have Xv := X1.up kv
  have Uv : Up w V2 := U1.trans kv
  clear hV kv X1 X1c X1f X1l U1
  refine (hf.out _).mono ?_
  rintro e w2 ⟨rfl, k2⟩
  have X2 := Xv.up k2
  have U2 := Uv.trans k2
  clear k2 Uv Xv 
  have X2c := X2.cell
  have X2f := X2.frozen
  have X2l := X2.lt
  go_wp2
  go_ret
  refine ⟨rfl, ?_⟩
  (repeat (first | with_reducible exact U2 | with_reducible refine Up.alloc ?_ _ | with_reducible refine Up.drew ?_ | refine Up.setCell ?_ (by simp <;> omega) _))

def SaRel (m : Me) (A : Int) (n : Nat) (w : World) (i : Value) (wr : World) : Prop := ∃ j : Nat, j ≤ n ∧ i = .int .i64 j ∧ Up w wr ∧ ∀ k : Nat, k < j → m.getb A k = true → m.getv A k = 0
set_option maxRecDepth 100000 in
set_option maxHeartbeats 8000000 in
theorem walk_zero (m : Me) (P Q : Addr) (c d : Nat) (s a l x y : Int) (A : Int) (w : World) (hm : Sits w m P Q c d) (hwf : m.wf) (hn : m.n ≤ 200) (hr : rgt s a l) (hl : l = m.n) (hp : (x = 0 ∧ y = 0) ∨ (0 ≤ x ∧ x ≤ y ∧ y ≤ a)) (h0 : A = 0) :
    Calls Try.prog 6 #[.agg #[.int .i64 m.n, .slice (some P) m.n c, .slice (some Q) m.n d, .int .i64 s, .int .i64 a, .int .i64 l, .int .i64 x, .int .i64 y], .int .u64 A] w (fun e w' => e = .returned (.bool true) ∧ Up w w') := by
  have hf := fun w => fewr_any m.n s a l x y (some P) (some Q) m.n m.n c d w
  rw [fewr_ok m s a l x y hm.1 hn hr hl hp] at hf
  have hf := Lib.hid hf
  subst h0
  clear hm hwf hn hr hl hp
  go_enter Try.func6, Try.ntmps6
  go_wp2_with (fail)
  refine calls_at (fun V1 hV => ?_)
  have kv : Up w V1 := by rw [hV]; (repeat (first | with_reducible exact Up.refl _ | with_reducible refine Up.alloc ?_ _ | with_reducible refine Up.drew ?_ | refine Up.setCell ?_ (by simp <;> omega) _))
  have Xv : Blk V1 (w.heap.size) 31 #[.int .i64 m.n, .slice (some P) m.n c, .slice (some Q) m.n d, .int .i64 s, .int .i64 a, .int .i64 l, .int .i64 x, .int .i64 y] := by rw [hV]; (repeat (first | with_reducible exact Blk.new' _ (by simp) _ _ | with_reducible refine Blk.alloc ?_ _ | with_reducible refine Blk.drew ?_ | refine Blk.far ?_ (by simp <;> omega) _))
  have Uv : Up w V1 := kv
  clear hV kv 
  refine (shown13 _).mono ?_
  rintro e w1 ⟨rfl, k1⟩
  have X1 := Xv.up k1
  have U1 := Uv.trans k1
  clear k1 Uv Xv 
  have X1c := X1.cell
  have X1f := X1.frozen
  have X1l := X1.lt
  go_wp2_with (fail)
  refine calls_at (fun V2 hV => ?_)
  have kv : Up w1 V2 := by rw [hV]; (repeat (first | with_reducible exact Up.refl _ | with_reducible refine Up.alloc ?_ _ | with_reducible refine Up.drew ?_ | refine Up.setCell ?_ (by simp <;> omega) _))
  have Xv := X1.up kv
  have Uv : Up w V2 := U1.trans kv
  clear hV kv X1 X1c X1f X1l U1
  refine (hf.out _).mono ?_
  rintro e w2 ⟨rfl, k2⟩
  have X2 := Xv.up k2
  have U2 := Uv.trans k2
  clear k2 Uv Xv 
  have X2c := X2.cell
  have X2f := X2.frozen
  have X2l := X2.lt
  go_wp2
  go_ret
  refine ⟨rfl, ?_⟩
  (repeat (first | with_reducible exact U2 | with_reducible refine Up.alloc ?_ _ | with_reducible refine Up.drew ?_ | refine Up.setCell ?_ (by simp <;> omega) _))

set_option maxRecDepth 100000 in
set_option maxHeartbeats 8000000 in
theorem walk_made (m : Me) (P Q : Addr) (c d : Nat) (s a l x y : Int) (A : Int) (hA : U64 A) (w : World) (hm : Sits w m P Q c d) (hwf : m.wf) (hn : m.n ≤ 200) (hr : rgt s a l) (hl : l = m.n) (hp : (x = 0 ∧ y = 0) ∨ (0 ≤ x ∧ x ≤ y ∧ y ≤ a)) (h0 : A ≠ 0) (hmd : mde m s A = true) :
    Calls Try.prog 6 #[.agg #[.int .i64 m.n, .slice (some P) m.n c, .slice (some Q) m.n d, .int .i64 s, .int .i64 a, .int .i64 l, .int .i64 x, .int .i64 y], .int .u64 A] w (fun e w' => e = .returned (.bool true) ∧ Up w w') := by
  have hf := fun w => fewr_any m.n s a l x y (some P) (some Q) m.n m.n c d w
  rw [fewr_ok m s a l x y hm.1 hn hr hl hp] at hf
  have hf := Lib.hid hf
  have q0 : (A == 0) = false := beq_eq_false_iff_ne.2 h0
  have hmd := Lib.hid (show ∀ (W : World) (U : Up w W), Calls Try.prog 17 #[rov m.n (sl P m.n c) (sl Q m.n d) s a l x y, .int .u64 A] W (fun e w' => e = .returned (.bool true) ∧ Up W w') from fun W U => by
    have q := rmade_any m s a l x y A P Q c d W (hm.up U) hwf hA h0
    rw [hmd] at q
    exact q)
  clear hm hwf hn hr hl hp hA h0
  go_enter Try.func6, Try.ntmps6
  go_wp2_with (fail)
  refine calls_at (fun V1 hV => ?_)
  have kv : Up w V1 := by rw [hV]; (repeat (first | with_reducible exact Up.refl _ | with_reducible refine Up.alloc ?_ _ | with_reducible refine Up.drew ?_ | refine Up.setCell ?_ (by simp <;> omega) _))
  have Xv : Blk V1 (w.heap.size) 31 #[.int .i64 m.n, .slice (some P) m.n c, .slice (some Q) m.n d, .int .i64 s, .int .i64 a, .int .i64 l, .int .i64 x, .int .i64 y] := by rw [hV]; (repeat (first | with_reducible exact Blk.new' _ (by simp) _ _ | with_reducible refine Blk.alloc ?_ _ | with_reducible refine Blk.drew ?_ | refine Blk.far ?_ (by simp <;> omega) _))
  have Uv : Up w V1 := kv
  clear hV kv 
  refine (shown13 _).mono ?_
  rintro e w1 ⟨rfl, k1⟩
  have X1 := Xv.up k1
  have U1 := Uv.trans k1
  clear k1 Uv Xv 
  have X1c := X1.cell
  have X1f := X1.frozen
  have X1l := X1.lt
  go_wp2_with (fail)
  refine calls_at (fun V2 hV => ?_)
  have kv : Up w1 V2 := by rw [hV]; (repeat (first | with_reducible exact Up.refl _ | with_reducible refine Up.alloc ?_ _ | with_reducible refine Up.drew ?_ | refine Up.setCell ?_ (by simp <;> omega) _))
  have Xv := X1.up kv
  have Uv : Up w V2 := U1.trans kv
  clear hV kv X1 X1c X1f X1l U1
  refine (hf.out _).mono ?_
  rintro e w2 ⟨rfl, k2⟩
  have X2 := Xv.up k2
  have U2 := Uv.trans k2
  clear k2 Uv Xv 
  have X2c := X2.cell
  have X2f := X2.frozen
  have X2l := X2.lt
  go_wp2_with (fail)
  refine calls_at (fun V3 hV => ?_)
  have kv : Up w2 V3 := by rw [hV]; (repeat (first | with_reducible exact Up.refl _ | with_reducible refine Up.alloc ?_ _ | with_reducible refine Up.drew ?_ | refine Up.setCell ?_ (by simp <;> omega) _))
  have Xv := X2.up kv
  have Uv : Up w V3 := U2.trans kv
  clear hV kv X2 X2c X2f X2l U2
  refine (hmd.out V3 Uv).mono ?_
  rintro e w3 ⟨rfl, k3⟩
  have X3 := Xv.up k3
  have U3 := Uv.trans k3
  clear k3 Uv Xv 
  have X3c := X3.cell
  have X3f := X3.frozen
  have X3l := X3.lt
  go_wp2
  go_ret
  refine ⟨rfl, ?_⟩
  (repeat (first | with_reducible exact U3 | with_reducible refine Up.alloc ?_ _ | with_reducible refine Up.drew ?_ | refine Up.setCell ?_ (by simp <;> omega) _))

set_option maxRecDepth 100000 in
set_option maxHeartbeats 8000000 in
theorem walk_bad (m : Me) (P Q : Addr) (c d : Nat) (s a l x y : Int) (A : Int) (w : World) (hm : Sits w m P Q c d) (hwf : m.wf) (hn : m.n ≤ 200) (hr : rgt s a l) (hl : l = m.n) (hp : (x = 0 ∧ y = 0) ∨ (0 ≤ x ∧ x ≤ y ∧ y ≤ a)) (hA : U64 A) (h0 : A ≠ 0) (hmd : mde m s A = false) (er : Int) (hz : toa m s a l A = ⟨m, a, 0, er⟩) (he : er ≠ 0) (hat0 : m.ate A = 0) :
    Calls Try.prog 6 #[.agg #[.int .i64 m.n, .slice (some P) m.n c, .slice (some Q) m.n d, .int .i64 s, .int .i64 a, .int .i64 l, .int .i64 x, .int .i64 y], .int .u64 A] w (fun e w' => e = .returned (.bool true) ∧ Up w w') := by
  have hf := fun w => fewr_any m.n s a l x y (some P) (some Q) m.n m.n c d w
  rw [fewr_ok m s a l x y hm.1 hn hr hl hp] at hf
  have hf := Lib.hid hf
  have HMD := Lib.hid hmd
  have q0 : (A == 0) = false := beq_eq_false_iff_ne.2 h0
  have hmd := Lib.hid (show ∀ (W : World) (U : Up w W), Calls Try.prog 17 #[rov m.n (sl P m.n c) (sl Q m.n d) s a l x y, .int .u64 A] W (fun e w' => e = .returned (.bool false) ∧ Up W w') from fun W U => by
    have q := rmade_any m s a l x y A P Q c d W (hm.up U) hwf hA h0
    rw [hmd] at q
    exact q)
  have hat := Lib.hid (fun (W : World) (U : Up w W) => rat_any m A P Q c d W (hm.up U) hA hwf)
  have hgt := Lib.hid (fun (W : World) (U : Up w W) (i : Nat) => rget_any m A i P Q c d W (hm.up U) hA hwf)
  have hpn := Lib.hid (fun (W : World) (U : Up w W) => psame_no m s a l x y A P Q c d W (hm.up U) hwf hA h0 HMD.out)
  have hrn := Lib.hid (fun (W : World) (U : Up w W) => rsame_no m s a l x y A P Q c d W (hm.up U) hwf hA h0 HMD.out)
  have hto := Lib.hid (fun (W : World) (U : Up w W) => rto_any m s a l x y A P Q c d W (hm.up U) hwf hA h0 HMD.out hr hl)
  rw [hz] at hto
  have qe : (er != 0) = true := bne_iff_ne.2 he
  obtain ⟨n, hn2⟩ : ∃ n : Nat, m.atl A = n := ⟨(m.atl A).toNat, by
    have hk := ate_0.1 hat0
    have h1 := (rte_small (mpw_nn _) (atok_rte hk)).2.2.1
    have h2 := (at_of hk).2.1
    omega⟩
  have hn65 : n ≤ 65535 := by
    have hk := ate_0.1 hat0
    have h1 := (rte_small (mpw_nn _) (atok_rte hk)).2.2.2.1
    have h2 := (at_of hk).2.1
    omega
  rw [hat0, hn2] at hat
  generalize m.att A = t at hat
  generalize m.atm A = mp at hat
  clear hm hwf hn hr hl hp hA h0 he hat0 hz hn2 HMD
  go_enter Try.func6, Try.ntmps6
  go_wp2_with (fail)
  refine calls_at (fun V1 hV => ?_)
  have kv : Up w V1 := by rw [hV]; (repeat (first | with_reducible exact Up.refl _ | with_reducible refine Up.alloc ?_ _ | with_reducible refine Up.drew ?_ | refine Up.setCell ?_ (by simp <;> omega) _))
  have Xv : Blk V1 (w.heap.size) 31 #[.int .i64 m.n, .slice (some P) m.n c, .slice (some Q) m.n d, .int .i64 s, .int .i64 a, .int .i64 l, .int .i64 x, .int .i64 y] := by rw [hV]; (repeat (first | with_reducible exact Blk.new' _ (by simp) _ _ | with_reducible refine Blk.alloc ?_ _ | with_reducible refine Blk.drew ?_ | refine Blk.far ?_ (by simp <;> omega) _))
  have Uv : Up w V1 := kv
  clear hV kv 
  refine (shown13 _).mono ?_
  rintro e w1 ⟨rfl, k1⟩
  have X1 := Xv.up k1
  have U1 := Uv.trans k1
  clear k1 Uv Xv 
  have X1c := X1.cell
  have X1f := X1.frozen
  have X1l := X1.lt
  go_wp2_with (fail)
  refine calls_at (fun V2 hV => ?_)
  have kv : Up w1 V2 := by rw [hV]; (repeat (first | with_reducible exact Up.refl _ | with_reducible refine Up.alloc ?_ _ | with_reducible refine Up.drew ?_ | refine Up.setCell ?_ (by simp <;> omega) _))
  have Xv := X1.up kv
  have Uv : Up w V2 := U1.trans kv
  clear hV kv X1 X1c X1f X1l U1
  refine (hf.out _).mono ?_
  rintro e w2 ⟨rfl, k2⟩
  have X2 := Xv.up k2
  have U2 := Uv.trans k2
  clear k2 Uv Xv 
  have X2c := X2.cell
  have X2f := X2.frozen
  have X2l := X2.lt
  go_wp2_with (fail)
  refine calls_at (fun V3 hV => ?_)
  have kv : Up w2 V3 := by rw [hV]; (repeat (first | with_reducible exact Up.refl _ | with_reducible refine Up.alloc ?_ _ | with_reducible refine Up.drew ?_ | refine Up.setCell ?_ (by simp <;> omega) _))
  have Xv := X2.up kv
  have Uv : Up w V3 := U2.trans kv
  clear hV kv X2 X2c X2f X2l U2
  refine (hmd.out V3 Uv).mono ?_
  rintro e w3 ⟨rfl, k3⟩
  have X3 := Xv.up k3
  have U3 := Uv.trans k3
  clear k3 Uv Xv 
  have X3c := X3.cell
  have X3f := X3.frozen
  have X3l := X3.lt
  go_wp2_with (fail)
  refine calls_at (fun V4 hV => ?_)
  have kv : Up w3 V4 := by rw [hV]; (repeat (first | with_reducible exact Up.refl _ | with_reducible refine Up.alloc ?_ _ | with_reducible refine Up.drew ?_ | refine Up.setCell ?_ (by simp <;> omega) _))
  have Xv := X3.up kv
  have Uv : Up w V4 := U3.trans kv
  clear hV kv X3 X3c X3f X3l U3
  refine (hat.out V4 Uv).mono ?_
  rintro e w4 ⟨rfl, k4⟩
  have X4 := Xv.up k4
  have U4 := Uv.trans k4
  clear k4 Uv Xv 
  have X4c := X4.cell
  have X4f := X4.frozen
  have X4l := X4.lt
  have U5 := U4.alloc (.cells #[.int .i64 t, .int .i64 n, .int .u64 mp] 55)
  have X5 := X4.alloc (.cells #[.int .i64 t, .int .i64 n, .int .u64 mp] 55)
  have Y5 := Blk.new w4 55 #[.int .i64 t, .int .i64 n, .int .u64 mp]
  go_wp2_with (fail)
  generalize hg4 : w4.heap.size = g at Y5 ⊢
  generalize (w4.alloc (.cells #[.int .i64 t, .int .i64 n, .int .u64 mp] 55)) = w5 at U5 X5 Y5 ⊢
  clear U4 X4 X4c X4f X4l hg4 hf hmd hat
  go_loopw [9] (fun i wr => SaRel m A n w5 i wr) (fun i _ => n - (intOf i).toNat)
  case atStart => exact ⟨0, Nat.zero_le _, rfl, Up.refl _, fun k hk => absurd hk (by omega)⟩
  case round =>
    rename World => wb
    obtain ⟨i, hi, rfl, hU, hfz⟩ := hrel
    have HFZ := Lib.hid hfz
    have U6 := U5.trans hU
    have X6 := X5.up hU
    have Y6 := Y5.up hU
    clear hfz
    have X6c := X6.cell
    have X6l := X6.lt
    have Y6c := Y6.cell
    have Y6l := Y6.lt
    by_cases hlt : i < n
    · have hd : decide ((i : Int) < (n : Int)) = true := decide_eq_true (by omega)
      have HS := Lib.hid (show m.getb A i = m.getb A i ∧ m.getv A i = m.getv A i from ⟨rfl, rfl⟩)
      have hg := Lib.hid (hgt.out wb U6 i)
      obtain ⟨v, hv⟩ : ∃ v, m.getv A i = v := ⟨_, rfl⟩
      obtain ⟨pb, hpb⟩ : ∃ pb, m.getb A i = pb := ⟨_, rfl⟩
      obtain ⟨ge, hge⟩ : ∃ ge, m.gete A i = ge := ⟨_, rfl⟩
      rw [hv, hpb, hge] at hg
      have HV := Lib.hid (And.intro hv hpb)
      clear HS hv hpb hge
      cases pb
      · go_wp2_with (fail)
        refine hg.out.mono ?_
        rintro e w7 ⟨rfl, h7⟩
        have U7 := hU.trans h7
        go_wp2
        refine ⟨⟨i + 1, by omega, by go_num, U7, fun k hk hb => ?_⟩, by simp [intOf]; omega⟩
        rcases Nat.lt_or_ge k i with q | q
        · exact HFZ.out k q hb
        · obtain rfl : k = i := by omega
          rw [HV.out.2] at hb
          cases hb
      · by_cases hv0 : v = 0
        · have qv : (v != 0) = false := by rw [hv0]; rfl
          have HV0 := Lib.hid hv0
          clear hv0
          go_wp2_with (fail)
          refine hg.out.mono ?_
          rintro e w7 ⟨rfl, h7⟩
          have U7 := hU.trans h7
          go_wp2
          refine ⟨⟨i + 1, by omega, by go_num, U7, fun k hk hb => ?_⟩, by simp [intOf]; omega⟩
          rcases Nat.lt_or_ge k i with q | q
          · exact HFZ.out k q hb
          · obtain rfl : k = i := by omega
            exact HV.out.1.trans HV0.out
        · have qv : (v != 0) = true := bne_iff_ne.2 hv0
          clear hv0
          go_wp2_with (fail)
          refine hg.out.mono ?_
          rintro e w7 ⟨rfl, h7⟩
          have U7 := U6.trans h7
          go_wp2
          go_ret
          exact ⟨rfl, U7⟩
    · have hd : decide ((i : Int) < (n : Int)) = false := decide_eq_false (by omega)
      have hin : i = n := by omega
      have HIN := Lib.hid hin
      clear hin
      clear HFZ hgt
      go_wp2_with (fail)
      refine (hto.out _ U6).mono ?_
      rintro e w7 ⟨P1, Q1, c1, d1, rfl, s7, h7⟩
      have U7 := U6.trans h7
      have X7 := X6.up h7
      clear h7 X6 Y6 X6c X6l Y6c Y6l hU U6 X5 Y5 U5 s7
      go_wp2_with (fail)
      obtain ⟨W0, hW0⟩ : ∃ W0 : World, W0 = (w7.alloc (.cells #[.int .i64 m.n, .slice (some P1) m.n c1, .slice (some Q1) m.n d1, .int .i64 s, .int .i64 a, .int .i64 l, .int .i64 x, .int .i64 y] 31)).drew := ⟨_, rfl⟩
      have UW : Up w7 W0 := by rw [hW0]; exact ((Up.refl _).alloc _).drew
      have U0 : Up W0 (w7.alloc (.cells #[.int .i64 m.n, .slice (some P1) m.n c1, .slice (some Q1) m.n d1, .int .i64 s, .int .i64 a, .int .i64 l, .int .i64 x, .int .i64 y] 31)).drew := by rw [hW0]; exact Up.refl _
      have X0 := X7.up UW
      have UU := U7.trans UW
      clear hW0 UW X7 U7
      go_region_held3 (fun w' => (∀ i, w'.cell? ⟨w.heap.size, i, none⟩ = (#[.int .i64 m.n, .slice (some P) m.n c, .slice (some Q) m.n d, .int .i64 s, .int .i64 a, .int .i64 l, .int .i64 x, .int .i64 y] : Array Value)[i]?))
        (exact fun i => (Blk.up X0 (by assumption)).cell i)
        (first
          | (go_at_call 21; ((with_reducible refine (hpn.out _ (UU.trans (by assumption))).mono ?_); rintro e wz ⟨rfl, hz⟩; have UZ := Up.trans (a := W0) (by assumption) hz))
          | (go_at_call 22; ((with_reducible refine (hrn.out _ (UU.trans (by assumption))).mono ?_); rintro e wy ⟨rfl, hy⟩; have UZ := Up.trans (a := W0) (by assumption) hy)))
      all_goals
        go_wp2
        go_ret
        exact ⟨rfl, UU.trans (by assumption)⟩

set_option maxRecDepth 100000 in
set_option maxHeartbeats 8000000 in
theorem walk_bad2 (m : Me) (P Q : Addr) (c d : Nat) (s a l x y : Int) (A : Int) (w : World) (hm : Sits w m P Q c d) (hwf : m.wf) (hn : m.n ≤ 200) (hr : rgt s a l) (hl : l = m.n) (hp : (x = 0 ∧ y = 0) ∨ (0 ≤ x ∧ x ≤ y ∧ y ≤ a)) (hA : U64 A) (h0 : A ≠ 0) (hmd : mde m s A = false) (er eb : Int) (n : Nat) (hz : toa m s a l A = ⟨m, a, 0, er⟩) (he : er ≠ 0) (hat0 : m.ate A = eb) (hb0 : eb ≠ 0) (hn2 : n = 0) :
    Calls Try.prog 6 #[.agg #[.int .i64 m.n, .slice (some P) m.n c, .slice (some Q) m.n d, .int .i64 s, .int .i64 a, .int .i64 l, .int .i64 x, .int .i64 y], .int .u64 A] w (fun e w' => e = .returned (.bool true) ∧ Up w w') := by
  have hf := fun w => fewr_any m.n s a l x y (some P) (some Q) m.n m.n c d w
  rw [fewr_ok m s a l x y hm.1 hn hr hl hp] at hf
  have hf := Lib.hid hf
  have HMD := Lib.hid hmd
  have q0 : (A == 0) = false := beq_eq_false_iff_ne.2 h0
  have hmd := Lib.hid (show ∀ (W : World) (U : Up w W), Calls Try.prog 17 #[rov m.n (sl P m.n c) (sl Q m.n d) s a l x y, .int .u64 A] W (fun e w' => e = .returned (.bool false) ∧ Up W w') from fun W U => by
    have q := rmade_any m s a l x y A P Q c d W (hm.up U) hwf hA h0
    rw [hmd] at q
    exact q)
  have hat := Lib.hid (fun (W : World) (U : Up w W) => rat_any m A P Q c d W (hm.up U) hA hwf)
  have hgt := Lib.hid (fun (W : World) (U : Up w W) (i : Nat) => rget_any m A i P Q c d W (hm.up U) hA hwf)
  have hpn := Lib.hid (fun (W : World) (U : Up w W) => psame_no m s a l x y A P Q c d W (hm.up U) hwf hA h0 HMD.out)
  have hrn := Lib.hid (fun (W : World) (U : Up w W) => rsame_no m s a l x y A P Q c d W (hm.up U) hwf hA h0 HMD.out)
  have hto := Lib.hid (fun (W : World) (U : Up w W) => rto_any m s a l x y A P Q c d W (hm.up U) hwf hA h0 HMD.out hr hl)
  rw [hz] at hto
  have qe : (er != 0) = true := bne_iff_ne.2 he
  have qb : (eb == 0) = false := beq_eq_false_iff_ne.2 hb0
  have hna : m.atl A = n := by rw [hn2]; exact (at_no (fun q => hb0 (by rw [← hat0]; exact ate_0.2 q))).2.1
  rw [hat0, hna] at hat
  generalize m.att A = t at hat
  generalize m.atm A = mp at hat
  have HN0 := Lib.hid hn2
  clear hm hwf hn hr hl hp hA h0 he hat0 hb0 hz hna HMD hn2
  go_enter Try.func6, Try.ntmps6
  go_wp2_with (fail)
  refine calls_at (fun V1 hV => ?_)
  have kv : Up w V1 := by rw [hV]; (repeat (first | with_reducible exact Up.refl _ | with_reducible refine Up.alloc ?_ _ | with_reducible refine Up.drew ?_ | refine Up.setCell ?_ (by simp <;> omega) _))
  have Xv : Blk V1 (w.heap.size) 31 #[.int .i64 m.n, .slice (some P) m.n c, .slice (some Q) m.n d, .int .i64 s, .int .i64 a, .int .i64 l, .int .i64 x, .int .i64 y] := by rw [hV]; (repeat (first | with_reducible exact Blk.new' _ (by simp) _ _ | with_reducible refine Blk.alloc ?_ _ | with_reducible refine Blk.drew ?_ | refine Blk.far ?_ (by simp <;> omega) _))
  have Uv : Up w V1 := kv
  clear hV kv 
  refine (shown13 _).mono ?_
  rintro e w1 ⟨rfl, k1⟩
  have X1 := Xv.up k1
  have U1 := Uv.trans k1
  clear k1 Uv Xv 
  have X1c := X1.cell
  have X1f := X1.frozen
  have X1l := X1.lt
  go_wp2_with (fail)
  refine calls_at (fun V2 hV => ?_)
  have kv : Up w1 V2 := by rw [hV]; (repeat (first | with_reducible exact Up.refl _ | with_reducible refine Up.alloc ?_ _ | with_reducible refine Up.drew ?_ | refine Up.setCell ?_ (by simp <;> omega) _))
  have Xv := X1.up kv
  have Uv : Up w V2 := U1.trans kv
  clear hV kv X1 X1c X1f X1l U1
  refine (hf.out _).mono ?_
  rintro e w2 ⟨rfl, k2⟩
  have X2 := Xv.up k2
  have U2 := Uv.trans k2
  clear k2 Uv Xv 
  have X2c := X2.cell
  have X2f := X2.frozen
  have X2l := X2.lt
  go_wp2_with (fail)
  refine calls_at (fun V3 hV => ?_)
  have kv : Up w2 V3 := by rw [hV]; (repeat (first | with_reducible exact Up.refl _ | with_reducible refine Up.alloc ?_ _ | with_reducible refine Up.drew ?_ | refine Up.setCell ?_ (by simp <;> omega) _))
  have Xv := X2.up kv
  have Uv : Up w V3 := U2.trans kv
  clear hV kv X2 X2c X2f X2l U2
  refine (hmd.out V3 Uv).mono ?_
  rintro e w3 ⟨rfl, k3⟩
  have X3 := Xv.up k3
  have U3 := Uv.trans k3
  clear k3 Uv Xv 
  have X3c := X3.cell
  have X3f := X3.frozen
  have X3l := X3.lt
  go_wp2_with (fail)
  refine calls_at (fun V4 hV => ?_)
  have kv : Up w3 V4 := by rw [hV]; (repeat (first | with_reducible exact Up.refl _ | with_reducible refine Up.alloc ?_ _ | with_reducible refine Up.drew ?_ | refine Up.setCell ?_ (by simp <;> omega) _))
  have Xv := X3.up kv
  have Uv : Up w V4 := U3.trans kv
  clear hV kv X3 X3c X3f X3l U3
  refine (hat.out V4 Uv).mono ?_
  rintro e w4 ⟨rfl, k4⟩
  have X4 := Xv.up k4
  have U4 := Uv.trans k4
  clear k4 Uv Xv 
  have X4c := X4.cell
  have X4f := X4.frozen
  have X4l := X4.lt
  have U5 := U4.alloc (.cells #[.int .i64 t, .int .i64 n, .int .u64 mp] 55)
  have X5 := X4.alloc (.cells #[.int .i64 t, .int .i64 n, .int .u64 mp] 55)
  have Y5 := Blk.new w4 55 #[.int .i64 t, .int .i64 n, .int .u64 mp]
  go_wp2_with (fail)
  generalize hg4 : w4.heap.size = g at Y5 ⊢
  generalize (w4.alloc (.cells #[.int .i64 t, .int .i64 n, .int .u64 mp] 55)) = w5 at U5 X5 Y5 ⊢
  clear U4 X4 X4c X4f X4l hg4 hf hmd hat
  go_loopw [9] (fun i wr => SaRel m A n w5 i wr) (fun i _ => n - (intOf i).toNat)
  case atStart => exact ⟨0, Nat.zero_le _, rfl, Up.refl _, fun k hk => absurd hk (by omega)⟩
  case round =>
    rename World => wb
    obtain ⟨i, hi, rfl, hU, hfz⟩ := hrel
    have HFZ := Lib.hid hfz
    have U6 := U5.trans hU
    have X6 := X5.up hU
    have Y6 := Y5.up hU
    clear hfz
    have X6c := X6.cell
    have X6l := X6.lt
    have Y6c := Y6.cell
    have Y6l := Y6.lt
    have hlt : ¬ i < n := by have := HN0.out; omega
    have hd : decide ((i : Int) < (n : Int)) = false := decide_eq_false (by omega)
    clear HFZ hgt
    go_wp2_with (fail)
    refine (hto.out _ U6).mono ?_
    rintro e w7 ⟨P1, Q1, c1, d1, rfl, s7, h7⟩
    have U7 := U6.trans h7
    have X7 := X6.up h7
    clear h7 X6 Y6 X6c X6l Y6c Y6l hU U6 X5 Y5 U5 s7
    go_wp2_with (fail)
    obtain ⟨W0, hW0⟩ : ∃ W0 : World, W0 = (w7.alloc (.cells #[.int .i64 m.n, .slice (some P1) m.n c1, .slice (some Q1) m.n d1, .int .i64 s, .int .i64 a, .int .i64 l, .int .i64 x, .int .i64 y] 31)).drew := ⟨_, rfl⟩
    have UW : Up w7 W0 := by rw [hW0]; exact ((Up.refl _).alloc _).drew
    have U0 : Up W0 (w7.alloc (.cells #[.int .i64 m.n, .slice (some P1) m.n c1, .slice (some Q1) m.n d1, .int .i64 s, .int .i64 a, .int .i64 l, .int .i64 x, .int .i64 y] 31)).drew := by rw [hW0]; exact Up.refl _
    have X0 := X7.up UW
    have UU := U7.trans UW
    clear hW0 UW X7 U7
    go_region_held3 (fun w' => (∀ i, w'.cell? ⟨w.heap.size, i, none⟩ = (#[.int .i64 m.n, .slice (some P) m.n c, .slice (some Q) m.n d, .int .i64 s, .int .i64 a, .int .i64 l, .int .i64 x, .int .i64 y] : Array Value)[i]?))
      (exact fun i => (Blk.up X0 (by assumption)).cell i)
      (first
        | (go_at_call 21; ((with_reducible refine (hpn.out _ (UU.trans (by assumption))).mono ?_); rintro e wz ⟨rfl, hz⟩; have UZ := Up.trans (a := W0) (by assumption) hz))
        | (go_at_call 22; ((with_reducible refine (hrn.out _ (UU.trans (by assumption))).mono ?_); rintro e wy ⟨rfl, hy⟩; have UZ := Up.trans (a := W0) (by assumption) hy)))
    all_goals
      go_wp2
      go_ret
      exact ⟨rfl, UU.trans (by assumption)⟩

set_option maxRecDepth 100000 in
set_option maxHeartbeats 8000000 in
theorem walk_ok (m : Me) (P Q : Addr) (c d : Nat) (s a l x y : Int) (A : Int) (w : World) (hm : Sits w m P Q c d) (hwf : m.wf) (hn : m.n ≤ 200) (hr : rgt s a l) (hl : l = m.n) (hp : (x = 0 ∧ y = 0) ∨ (0 ≤ x ∧ x ≤ y ∧ y ≤ a)) (hA : U64 A) (h0 : A ≠ 0) (hmd : mde m s A = false) (K : Me) (a2 T : Int) (hz : toa m s a l A = ⟨K, a2, T, 0⟩) (hcp : Cp m s a l A) (hK : K = m.cpm s a A) (hT : T = adr s a) :
    Calls Try.prog 6 #[.agg #[.int .i64 m.n, .slice (some P) m.n c, .slice (some Q) m.n d, .int .i64 s, .int .i64 a, .int .i64 l, .int .i64 x, .int .i64 y], .int .u64 A] w (fun e w' => e = .returned (.bool true) ∧ Up w w') := by
  have hf := fun w => fewr_any m.n s a l x y (some P) (some Q) m.n m.n c d w
  rw [fewr_ok m s a l x y hm.1 hn hr hl hp] at hf
  have hf := Lib.hid hf
  have HMD := Lib.hid hmd
  have q0 : (A == 0) = false := beq_eq_false_iff_ne.2 h0
  have hmd := Lib.hid (show ∀ (W : World) (U : Up w W), Calls Try.prog 17 #[rov m.n (sl P m.n c) (sl Q m.n d) s a l x y, .int .u64 A] W (fun e w' => e = .returned (.bool false) ∧ Up W w') from fun W U => by
    have q := rmade_any m s a l x y A P Q c d W (hm.up U) hwf hA h0
    rw [hmd] at q
    exact q)
  have hat := Lib.hid (fun (W : World) (U : Up w W) => rat_any m A P Q c d W (hm.up U) hA hwf)
  have hgt := Lib.hid (fun (W : World) (U : Up w W) (i : Nat) => rget_any m A i P Q c d W (hm.up U) hA hwf)
  have hpn := Lib.hid (fun (W : World) (U : Up w W) => psame_no m s a l x y A P Q c d W (hm.up U) hwf hA h0 HMD.out)
  have hrn := Lib.hid (fun (W : World) (U : Up w W) => rsame_no m s a l x y A P Q c d W (hm.up U) hwf hA h0 HMD.out)
  have hto := Lib.hid (fun (W : World) (U : Up w W) => rto_any m s a l x y A P Q c d W (hm.up U) hwf hA h0 HMD.out hr hl)
  rw [hz] at hto
  have hat0 : m.ate A = 0 := (kne_wdn hcp.kn).1
  obtain ⟨n, hn2⟩ : ∃ n : Nat, m.atl A = n := ⟨(m.atl A).toNat, by have := (kne_inn hcp.kn).2; omega⟩
  have hn65 : n ≤ 65535 := by have := atl_16 hcp.kn; omega
  rw [hat0, hn2] at hat
  have hkk := hcp.kn
  have hys := Lib.hid (show ∀ (P1 Q1 : Addr) (c1 d1 : Nat) (W : World) (S : Sits W K P1 Q1 c1 d1) (hf : ∀ k : Nat, k < n → m.getb A k = true → m.getv A k = 0), Calls Try.prog 21 #[rov K.n (sl P1 K.n c1) (sl Q1 K.n d1) s a2 l x y, .int .u64 A] W (fun e w' => e = .returned (.bool true) ∧ Up W w') from fun P1 Q1 c1 d1 W S hf => by
    subst hK
    refine psame_yes (m.cpm s a A) s a2 l x y A (adr s a) P1 Q1 c1 d1 W S hcp.cwf hA (adr_u64 hcp.rg.1 hcp.pl.1 hcp.pl.2.2.1) h0 hcp.nw hcp.ov (ovb_adr hcp.rg.1 hcp.pl.1 hcp.pl.2.2.1) (fun i hi hb => ?_)
    have hl2 : (m.cpm s a A).atl A = m.atl A := by rw [(at_of (kne_0.1 hcp.kn').1).2.1, (at_of (kne_0.1 hcp.kn).1).2.1, hcp.ld hcp.nt.1 (by omega)]
    rw [hl2] at hi
    obtain ⟨g1, g2, _⟩ := hcp.got (i := i) (by omega) hi
    rw [g1]
    rw [g2] at hb
    exact hf i (by rw [hn2] at hi; omega) hb)
  generalize m.att A = t at hat
  generalize m.atm A = mp at hat
  clear hm hwf hn hr hl hp hA h0 hat0 hz hn2 HMD hcp hK hT hkk
  go_enter Try.func6, Try.ntmps6
  go_wp2_with (fail)
  refine calls_at (fun V1 hV => ?_)
  have kv : Up w V1 := by rw [hV]; (repeat (first | with_reducible exact Up.refl _ | with_reducible refine Up.alloc ?_ _ | with_reducible refine Up.drew ?_ | refine Up.setCell ?_ (by simp <;> omega) _))
  have Xv : Blk V1 (w.heap.size) 31 #[.int .i64 m.n, .slice (some P) m.n c, .slice (some Q) m.n d, .int .i64 s, .int .i64 a, .int .i64 l, .int .i64 x, .int .i64 y] := by rw [hV]; (repeat (first | with_reducible exact Blk.new' _ (by simp) _ _ | with_reducible refine Blk.alloc ?_ _ | with_reducible refine Blk.drew ?_ | refine Blk.far ?_ (by simp <;> omega) _))
  have Uv : Up w V1 := kv
  clear hV kv 
  refine (shown13 _).mono ?_
  rintro e w1 ⟨rfl, k1⟩
  have X1 := Xv.up k1
  have U1 := Uv.trans k1
  clear k1 Uv Xv 
  have X1c := X1.cell
  have X1f := X1.frozen
  have X1l := X1.lt
  go_wp2_with (fail)
  refine calls_at (fun V2 hV => ?_)
  have kv : Up w1 V2 := by rw [hV]; (repeat (first | with_reducible exact Up.refl _ | with_reducible refine Up.alloc ?_ _ | with_reducible refine Up.drew ?_ | refine Up.setCell ?_ (by simp <;> omega) _))
  have Xv := X1.up kv
  have Uv : Up w V2 := U1.trans kv
  clear hV kv X1 X1c X1f X1l U1
  refine (hf.out _).mono ?_
  rintro e w2 ⟨rfl, k2⟩
  have X2 := Xv.up k2
  have U2 := Uv.trans k2
  clear k2 Uv Xv 
  have X2c := X2.cell
  have X2f := X2.frozen
  have X2l := X2.lt
  go_wp2_with (fail)
  refine calls_at (fun V3 hV => ?_)
  have kv : Up w2 V3 := by rw [hV]; (repeat (first | with_reducible exact Up.refl _ | with_reducible refine Up.alloc ?_ _ | with_reducible refine Up.drew ?_ | refine Up.setCell ?_ (by simp <;> omega) _))
  have Xv := X2.up kv
  have Uv : Up w V3 := U2.trans kv
  clear hV kv X2 X2c X2f X2l U2
  refine (hmd.out V3 Uv).mono ?_
  rintro e w3 ⟨rfl, k3⟩
  have X3 := Xv.up k3
  have U3 := Uv.trans k3
  clear k3 Uv Xv 
  have X3c := X3.cell
  have X3f := X3.frozen
  have X3l := X3.lt
  go_wp2_with (fail)
  refine calls_at (fun V4 hV => ?_)
  have kv : Up w3 V4 := by rw [hV]; (repeat (first | with_reducible exact Up.refl _ | with_reducible refine Up.alloc ?_ _ | with_reducible refine Up.drew ?_ | refine Up.setCell ?_ (by simp <;> omega) _))
  have Xv := X3.up kv
  have Uv : Up w V4 := U3.trans kv
  clear hV kv X3 X3c X3f X3l U3
  refine (hat.out V4 Uv).mono ?_
  rintro e w4 ⟨rfl, k4⟩
  have X4 := Xv.up k4
  have U4 := Uv.trans k4
  clear k4 Uv Xv 
  have X4c := X4.cell
  have X4f := X4.frozen
  have X4l := X4.lt
  have U5 := U4.alloc (.cells #[.int .i64 t, .int .i64 n, .int .u64 mp] 55)
  have X5 := X4.alloc (.cells #[.int .i64 t, .int .i64 n, .int .u64 mp] 55)
  have Y5 := Blk.new w4 55 #[.int .i64 t, .int .i64 n, .int .u64 mp]
  go_wp2_with (fail)
  generalize hg4 : w4.heap.size = g at Y5 ⊢
  generalize (w4.alloc (.cells #[.int .i64 t, .int .i64 n, .int .u64 mp] 55)) = w5 at U5 X5 Y5 ⊢
  clear U4 X4 X4c X4f X4l hg4 hf hmd hat
  go_loopw [9] (fun i wr => SaRel m A n w5 i wr) (fun i _ => n - (intOf i).toNat)
  case atStart => exact ⟨0, Nat.zero_le _, rfl, Up.refl _, fun k hk => absurd hk (by omega)⟩
  case round =>
    rename World => wb
    obtain ⟨i, hi, rfl, hU, hfz⟩ := hrel
    have HFZ := Lib.hid hfz
    have U6 := U5.trans hU
    have X6 := X5.up hU
    have Y6 := Y5.up hU
    clear hfz
    have X6c := X6.cell
    have X6l := X6.lt
    have Y6c := Y6.cell
    have Y6l := Y6.lt
    by_cases hlt : i < n
    · have hd : decide ((i : Int) < (n : Int)) = true := decide_eq_true (by omega)
      have HS := Lib.hid (show m.getb A i = m.getb A i ∧ m.getv A i = m.getv A i from ⟨rfl, rfl⟩)
      have hg := Lib.hid (hgt.out wb U6 i)
      obtain ⟨v, hv⟩ : ∃ v, m.getv A i = v := ⟨_, rfl⟩
      obtain ⟨pb, hpb⟩ : ∃ pb, m.getb A i = pb := ⟨_, rfl⟩
      obtain ⟨ge, hge⟩ : ∃ ge, m.gete A i = ge := ⟨_, rfl⟩
      rw [hv, hpb, hge] at hg
      have HV := Lib.hid (And.intro hv hpb)
      clear HS hv hpb hge
      cases pb
      · go_wp2_with (fail)
        refine hg.out.mono ?_
        rintro e w7 ⟨rfl, h7⟩
        have U7 := hU.trans h7
        go_wp2
        refine ⟨⟨i + 1, by omega, by go_num, U7, fun k hk hb => ?_⟩, by simp [intOf]; omega⟩
        rcases Nat.lt_or_ge k i with q | q
        · exact HFZ.out k q hb
        · obtain rfl : k = i := by omega
          rw [HV.out.2] at hb
          cases hb
      · by_cases hv0 : v = 0
        · have qv : (v != 0) = false := by rw [hv0]; rfl
          have HV0 := Lib.hid hv0
          clear hv0
          go_wp2_with (fail)
          refine hg.out.mono ?_
          rintro e w7 ⟨rfl, h7⟩
          have U7 := hU.trans h7
          go_wp2
          refine ⟨⟨i + 1, by omega, by go_num, U7, fun k hk hb => ?_⟩, by simp [intOf]; omega⟩
          rcases Nat.lt_or_ge k i with q | q
          · exact HFZ.out k q hb
          · obtain rfl : k = i := by omega
            exact HV.out.1.trans HV0.out
        · have qv : (v != 0) = true := bne_iff_ne.2 hv0
          clear hv0
          go_wp2_with (fail)
          refine hg.out.mono ?_
          rintro e w7 ⟨rfl, h7⟩
          have U7 := U6.trans h7
          go_wp2
          go_ret
          exact ⟨rfl, U7⟩
    · have hd : decide ((i : Int) < (n : Int)) = false := decide_eq_false (by omega)
      have hin : i = n := by omega
      have HIN := Lib.hid hin
      clear hin
      have hpy := Lib.hid (fun (P1 Q1 : Addr) (c1 d1 : Nat) (W : World) (S : Sits W K P1 Q1 c1 d1) => hys.out P1 Q1 c1 d1 W S (fun k hk hb => HFZ.out k (by rw [HIN.out]; exact hk) hb))
      clear HFZ hgt hys
      go_wp2_with (fail)
      refine (hto.out _ U6).mono ?_
      rintro e w7 ⟨P1, Q1, c1, d1, rfl, s7, h7⟩
      have U7 := U6.trans h7
      have X7 := X6.up h7
      clear h7 X6 Y6 X6c X6l Y6c Y6l hU U6 X5 Y5 U5
      go_wp2_with (fail)
      refine calls_at (fun V8 hV8 => ?_)
      have k8 : Up w7 V8 := by rw [hV8]; exact (Up.refl _).alloc _
      have U8 := U7.trans k8
      have X8 := X7.up k8
      have s8 := s7.up k8
      clear hV8 k8 U7 X7 s7
      refine (hpy.out P1 Q1 c1 d1 V8 s8).mono ?_
      rintro e w9 ⟨rfl, h9⟩
      have U9 := U8.trans h9
      have X9 := X8.up h9
      clear h9 U8 X8 s8
      have X9c := X9.cell
      have X9l := X9.lt
      go_wp2_with (fail)
      refine (hpn.out _ U9).mono ?_
      rintro e w10 ⟨rfl, h10⟩
      have U10 := U9.trans h10
      go_wp2
      go_ret
      exact ⟨rfl, U10⟩

theorem walk_yes (m : Me) (P Q : Addr) (c d : Nat) (s a l x y : Int) (A : Int) (hA : U64 A) (w : World) (hm : Sits w m P Q c d) (hwf : m.wf) (hn : m.n ≤ 200) (hr : rgt s a l) (hl : l = m.n) (hp : (x = 0 ∧ y = 0) ∨ (0 ≤ x ∧ x ≤ y ∧ y ≤ a)) :
    Calls Try.prog 6 #[.agg #[.int .i64 m.n, .slice (some P) m.n c, .slice (some Q) m.n d, .int .i64 s, .int .i64 a, .int .i64 l, .int .i64 x, .int .i64 y], .int .u64 A] w (fun e w' => e = .returned (.bool true) ∧ Up w w') := by
  by_cases h0 : A = 0
  · exact walk_zero m P Q c d s a l x y A w hm hwf hn hr hl hp h0
  cases hmd : mde m s A
  · rcases toa_cases (A := A) hm.1 hwf hr hl with h | h | h | h | h
    · exact absurd h.1 h0
    · rw [show mde m s A = true from by unfold mde; rw [decide_eq_true h.2.2.1, h.2.1]; rfl] at hmd
      cases hmd
    · by_cases hb : m.ate A = 0
      · exact walk_bad m P Q c d s a l x y A w hm hwf hn hr hl hp hA h0 hmd _ h.2.2 h.2.1 hb
      · exact walk_bad2 m P Q c d s a l x y A w hm hwf hn hr hl hp hA h0 hmd _ _ 0 h.2.2 h.2.1 rfl hb rfl
    · exact absurd (mde_no hmd).1 h.2.2.2.1
    · exact walk_ok m P Q c d s a l x y A w hm hwf hn hr hl hp hA h0 hmd _ _ _ h.2.2 h.2.1 rfl rfl
  · exact walk_made m P Q c d s a l x y A hA w hm hwf hn hr hl hp h0 hmd

theorem walk (N : Int) (A0 A1 : Option Addr) (n0 n1 c0 c1 : Nat) (s a l x y : Int) (xs ys : List Int) (A : Int) (w : World) (hx : SlOk w A0 n0 c0 xs) (hy : SlOk w A1 n1 c1 ys)(hA : U64 A) :
    Calls Try.prog 6 #[.agg #[.int .i64 N, .slice A0 n0 c0, .slice A1 n1 c1, .int .i64 s, .int .i64 a, .int .i64 l, .int .i64 x, .int .i64 y], .int .u64 A] w (fun e w' => e = .returned (.bool true) ∧ Up w w') := by
  cases hfew : fewr N n0 n1 s a l x y
  · exact walk_no N A0 A1 n0 n1 c0 c1 s a l x y A hfew w
  · obtain ⟨rfl, rfl, h16, h200, hr, hl, hp⟩ := fewr_is hfew
    obtain ⟨P, Q, rfl, rfl, hm⟩ := sits_of hx hy h16 (by omega)
    have hwf := sits_wf hx hy
    exact walk_yes ⟨n0, xs, ys⟩ P Q c0 c1 s a l x y A hA w hm hwf h200 hr hl hp 

theorem own : ownKnob Try.prog.godebug = none := by kernel_rfl
set_option maxRecDepth 100000 in
theorem lifted (os : Os) (started : os.Started) (H : Type) (enc : TypeId × Value → H) :
    ReturnsInHanded {} Try.checked os 6 .any (Rows.replaySameSpec.pre6 enc Try.prog Try.f6 Rows.replaySameRow.domain false) (Rows.replaySameSpec.post enc Try.prog Try.f6 false true false false) := by
  refine returnsInHanded_of_change (C := Try.checked) own started (by kernel_rfl) Try.func6
    (ChangeSpec.witness6 (enc := enc) (C := Try.checked) false ⟨#[], #[.agg #[.int .i64 0, .slice none 0 0, .slice none 0 0, .int .i64 0, .int .i64 0, .int .i64 0, .int .i64 0, .int .i64 0], .int .u64 0], []⟩ 8 (by kernel_rfl) (by kernel_rfl) (by kernel_rfl) (by kernel_rfl)) ?_
  intro W base args ds gs before hval0 hW hcnd _
  have hval : ∀ (j : Nat) t v, Try.f6.params[j]? = some t → args[j]? = some v → Value.okWide Try.prog W .any base t v := hval0
  have hW' := hW
  obtain ⟨p, q, hA0, hV, rfl, hfz, hnd⟩ := hW
  have hA : DataW.TrodAll enc Try.prog W 0 (fun _ => true) true Try.f6.params.toList args.toList ds p := hA0
  rw [Try.params6] at hA hval
  obtain ⟨v0, vs0, d0, ds0, p0, q0, hargs, rfl, rfl, h0, r0⟩ := trodAll_cons hA
  obtain ⟨v1, vs1, d1, ds1, p1, q1, rfl, rfl, rfl, h1, r1⟩ := trodAll_cons r0
  obtain ⟨rfl, rfl, rfl⟩ := trodAll_nil r1
  obtain rfl : args = #[v0, v1] := by cases args; simp_all
  obtain ⟨rfl, rfl⟩ := trodVars_none hV
  have h0k := h0
  obtain ⟨N, A0, A1, n0, n1, c0, c1, xs, ys, s, a, l, x, y, rfl, hN, hx, hy, hs, ha, hl, hxx, hyy⟩ := room_open (hval 0 31 v0 rfl rfl) h0
  obtain ⟨a1, rfl, rfl, rfl, w1⟩ := open_int Try.underlying44 (hval 1 44 v1 rfl rfl) h1
  clear hA0 hval0
  simp only [List.append_nil, List.nil_append] at hW'
  refine (walk N A0 A1 n0 n1 c0 c1 s a l x y xs ys a1 W hx hy ⟨nn_of_wf w1, hi_of_wf w1⟩).mono fun e W' ⟨he, hg⟩ => ?_
  subst he
  exact ⟨_, rfl, post_below (pa := p0) (pv := []) hW' (fun _ _ _ => (trodAll_cons_mk (shut_bool Try.underlying4 _) trodAll_mk0))
    (fun sp hsp => by
      have t := (trodAll_cons_mk (trod_keeps (sp := sp) (by kernel_rfl) (of_decide_eq_true (by kernel_rfl)) h0k hg (fun x hx => hW'.lt x (by simp [hx])) (fun x hx => hsp x (by simp [hx]))) (trodAll_cons_mk (shut_int Try.underlying44 w1) trodAll_mk0))
      simp only [List.append_nil, List.nil_append] at t
      exact t) (fun _ _ => rfl) (by simp)
    hg (ok_one (by kernel_rfl) rfl (okWide_bool_mk Try.underlying4 _))⟩

set_option maxRecDepth 100000 in
theorem over : Rows.replaySameRow.holds Try.pinned (OpenSpec.ofChange Rows.replaySameSpec) :=
  OpenClaim.holds_of_wide 6 Try.f6 rfl rfl rfl rfl rfl rfl rfl ⟨rfl, rfl, rfl, rfl, rfl⟩ rfl rfl rfl rfl rfl (by kernel_rfl) Try.func6 (by kernel_rfl)
    (of_decide_eq_true (by kernel_rfl)) (by unfold Func.isWrapper; first | (rw [if_pos (by decide +kernel)]; kernel_rfl) | (rw [if_neg (by decide +kernel)]; exact ⟨rfl, rfl⟩))
    (fun os started H enc _ => lifted os started H enc)

theorem proved : Rows.ReplaySameSaid :=
  over
#print axioms proved
end Go.Proofs.Ytgcpkgogjcgfbaa.LReplaySame
