/- Package buf: objects that are made (Make): where a piece is filled, and no new one can be taken. -/
import Derived.Test.YtjolikgficknnaaBf5
namespace Go.Proofs.Ytjolikgficknnaa
open Go.ChangeShapes Go.WideShapes Go.ChangeAt Go.RowKit
set_option linter.unusedVariables false
set_option linter.unusedSimpArgs false

set_option maxRecDepth 100000 in
set_option maxHeartbeats 4000000 in
/-- The piece is filled, and no new one is long enough. -/
theorem make_cf (m : Me) (P Q : Addr) (c d : Nat) (s a l x y t k mp size : Int) (w : World) (hm : Sits w m P Q c d) (hmp : 0 ≤ mp) (hh : rte t k mp = 0) (ht : t ≠ 255) (hs : rgt s a l) (h2 : l = m.n) (h0 : 0 ≤ x) (h3 : x ≤ y) (h1 : y ≤ m.n) (hne : x ≠ 0 ∨ y ≠ 0) (hn : y - x < wdn t k) (hn2 : 2 * wdn t k ≤ size) (hn3 : l - a < wdn t k) :
    Calls Try.prog 12 #[rov m.n (.slice (some P) m.n c) (.slice (some Q) m.n d) s a l x y, hdv t k mp, .int .i64 size] w (GivesR2 w (m.rtm s x y) s a l 0 0 0 4) := by
  have hw := wdn_small hmp hh
  have hr := fun w => right_any t k mp w
  rw [hh] at hr
  have hr := Lib.hid hr
  have hwd := Lib.hid (fun w => words_any t k mp hmp hh w)
  have hmk := Lib.hid (fun w => maker_at t k mp w)
  have hn4 := hm.1.2.1
  have hg := Lib.hid (fun w => gap_any m.n s a l x y (.slice (some P) m.n c) (.slice (some Q) m.n d) h0 (by omega) (by omega) (by omega) w)
  have hk := msk_le s a l size (wdn t k) hs hw.1 hn2
  have hre := fun (A0 A1 : Option Addr) (c0 c1 : Nat) (w : World) => renewed_any m.n s a l 0 0 size A0 A1 m.n m.n c0 c1 hs w
  have hma := msa_is s a l size hs
  rw [← hma] at hre
  have hg2 := fun (A B : Value) (w : World) => gap_any m.n s (msa s a l size) l a (msa s a l size) A B hs.2.1 (by have := hs.2.2; omega) (by have := hs.2.1; omega) (by have := hs.2.2; omega) w
  rw [show msa s a l size - a = msk s a l size from by omega] at hg2
  have hrt := fun (W : World) (h : Up w W) => retire_any m P Q c d s a l x y W (hm.up h) hs.1 h0 h3 (by omega)
  have hKn := rtm_n m s x y
  have hem := fun w => empty_any x y w
  rw [show tsame x y 0 0 = false from by unfold tsame; simp; omega] at hem
  have hem := Lib.hid hem
  generalize m.rtm s x y = K at hrt hKn ⊢
  have hre := Lib.hid hre
  have hg2 := Lib.hid hg2
  have hrt := Lib.hid hrt
  generalize msk s a l size = z at hk hg2 hma
  generalize msa s a l size = b at hre hg2 hma
  generalize wdn t k = n at hwd hw hn hn2 hn3 hk
  have hle : decide (n ≤ y - x) = false := decide_eq_false (by omega)
  generalize y - x = q at hg hle
  have b0 := hw.1
  have b1 := hw.2
  have hd : decide (size < 2 * n) = false := decide_eq_false (by omega)
  have hz : decide (z < n) = true := decide_eq_true (hk.2.2 hn3)
  have HM := Lib.hid hm
  have ht' : (t == 255) = false := beq_eq_false_iff_ne.mpr ht
  clear hm hmp hh hs hn hn2 hn3 hw hn4 ht hk hma h2 h0 h1 h3 hne
  have HKn := Lib.hid hKn
  go_enter Try.func12, Try.ntmps12
  go_wp2
  refine wp_scope_jumps 0 (fun _ _ => False) (fun a' _ => 0) rfl ?_ (fun _ _ hf => hf.elim)
  go_wp2_with (fail)
  refine calls_at (fun V hV => ?_)
  obtain ⟨U0, X0, H0, R0⟩ := three8 hV
  clear hV
  refine (hr.out _).mono ?_
  rintro e w1 ⟨rfl, k1⟩
  have X1 := X0.up k1
  have H1 := H0.up k1
  have R1 := R0.up k1
  have U1 := U0.trans k1
  clear k1 X0 H0 R0 U0
  have H1c := H1.cell
  go_wp2_with (fail)
  have V0 := (Up.refl w1).drew
  go_region_held3 (fun w' => ∀ i, w'.cell? ⟨w.heap.size + 1, i, none⟩ = (hcs t k mp)[i]?)
    (with_reducible exact fun i => (Blk.up H1 (by assumption)).cell i)
    (first
      | (go_at_call 21; ((with_reducible refine (hwd.out w1.drew).mono ?_); rintro e wa ⟨rfl, ha⟩; have UA := Up.trans V0 ha))
      | (go_at_call 22; ((with_reducible refine (hmk.out wa).mono ?_); rintro e wz ⟨g, rfl, hz, hgb, GZ⟩; have UZ := Up.trans UA hz; have hgz := Nat.le_trans UA.le hgb)))
  rename_i hHeld
  clear hHeld hwd hmk hr
  have hgw : w.heap.size + 1 + 1 < g := Nat.lt_of_lt_of_le R1.lt hgz
  have X2 := X1.up UZ
  have R2 := R1.up UZ
  have U2 := U1.trans UZ
  clear V0 X1 R1 U1 H1 H1c UZ hgz hgb ha UA hz
  go_wp2_with (fail)
  go_step3
  have X2c := X2.cell
  go_wp2_with (fail)
  refine (hg.out _).mono ?_
  rintro e w3 ⟨rfl, k3⟩
  have X3 := X2.up k3
  have R3 := R2.up k3
  have U3 := U2.trans k3
  have GZ := GZ.up k3
  clear k3 X2 X2c R2 U2
  have X3c := X3.cell
  go_wp2_with (fail)
  refine (hem.out _).mono ?_
  rintro e w4 ⟨rfl, k4⟩
  have X4 := X3.up k4
  have R4 := R3.up k4
  have U4 := U3.trans k4
  have GZ := GZ.up k4
  clear k4 X3 X3c R3 U3
  have X4c := X4.cell
  go_wp2_with (fail)
  refine (hrt.out _ U4).mono ?_
  rintro e w5 ⟨P', Q', c', d', rfl, sz, k5⟩
  have X5 := X4.up k5
  have R5 := R4.up k5
  have U5 := U4.trans k5
  have GZ := GZ.up k5
  clear k5 X4 X4c R4 U4
  have X5c := X5.cell
  have X5f := X5.frozen
  have X5l := X5.lt
  go_wp2_with (fail)
  refine calls_at (fun V6 hV6 => ?_)
  have X6 : Blk V6 w.heap.size 31 (roc m.n (.slice (some P') m.n c') (.slice (some Q') m.n d') s a l 0 0) := by rw [hV6]; exact X5.set8 _ _ _ _ _ _ _ _
  have k6 : Kp [w.heap.size] w5 V6 := by
    rw [hV6]
    exact (Kp.set_ (Kp.set_ (Kp.set_ (Kp.set_ (Kp.set_ (Kp.set_ (Kp.set_ (Kp.set_ (Kp.refl _ _) (by simp) _) (by simp) _) (by simp) _) (by simp) _) (by simp) _) (by simp) _) (by simp) _) (by simp) _)
  have R6 := R5.kp k6 (by simp <;> omega)
  have GZ := GZ.kp k6 (by simp <;> omega)
  have S6 := sz.kp k6 (Tiny.one X5 (by simp))
  have U6 := U5.kp k6 (by simp)
  clear hV6 k6 X5 X5c X5f X5l R5 U5 sz
  refine (hre.out (some P') (some Q') c' d' _).mono ?_
  rintro e w7 ⟨rfl, k7⟩
  have X7 := X6.up k7
  have R7 := R6.up k7
  have U7 := U6.trans k7
  have S7 := S6.up k7
  have GZ := GZ.up k7
  clear k7 X6 R6 U6 S6
  have X7c := X7.cell
  go_wp2_with (fail)
  refine calls_at (fun V8 hV8 => ?_)
  have k8 : Up w7 V8 := by rw [hV8]; exact (Up.refl _).alloc _
  have N8 : Blk V8 w7.heap.size 31 (roc m.n (.slice (some P') m.n c') (.slice (some Q') m.n d') s b l a b) := by rw [hV8]; exact Blk.new _ _ _
  clear hV8
  refine (hg2.out _ _ _).mono ?_
  rintro e w9 ⟨rfl, k9⟩
  have N9 := N8.up k9
  replace k9 := k8.trans k9
  have X9 := X7.up k9
  have R9 := R7.up k9
  have U9 := U7.trans k9
  have S9 := S7.up k9
  have GZ := GZ.up k9
  have hN9 : w.heap.size < w7.heap.size := X7.lt
  clear k9 k8 X7 R7 U7 S7 X7c N8
  have N9c := N9.cell
  have N9l := N9.lt
  have X9c := X9.cell
  have X9f := X9.frozen
  have X9l := X9.lt
  have R9c := R9.cell
  have R9f := R9.frozen
  have R9l := R9.lt
  go_wp2_with (fail)
  (try simp only [Exit.inBlock, Exit.then])
  (try simp only [Exit.jump])
  refine bodyPost_ret (ret_room3 rfl _ _ _ _ _ _ _ _ _ _ _ _ _ rfl (R9.set8 _ _ _ _ _ _ _ _) rfl rfl) rfl ?_
  refine ⟨P', Q', c', d', by rw [HKn.out]; rfl, S9.kp (S := [w.heap.size, w.heap.size + 1 + 1]) ?_ (Tiny.two X9 R9 (by simp) (by simp)), U9.kp (S := [w.heap.size, w.heap.size + 1 + 1]) ?_ (by simp <;> omega)⟩
  all_goals
    exact (Kp.set_ (Kp.set_ (Kp.set_ (Kp.set_ (Kp.set_ (Kp.set_ (Kp.set_ (Kp.set_ (Kp.refl _ _) (by simp) _) (by simp) _) (by simp) _) (by simp) _) (by simp) _) (by simp) _) (by simp) _) (by simp) _)
end Go.Proofs.Ytjolikgficknnaa
