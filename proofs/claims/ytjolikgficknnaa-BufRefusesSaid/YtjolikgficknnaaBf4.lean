/- Package buf: objects that are made (Make): where there is room in the piece, and where it is made without one. -/
import Derived.Test.YtjolikgficknnaaBf3
namespace Go.Proofs.Ytjolikgficknnaa
open Go.ChangeShapes Go.WideShapes Go.ChangeAt Go.RowKit
set_option linter.unusedVariables false
set_option linter.unusedSimpArgs false

/-- The closure's box, wherever it lies. -/
theorem maker_at (t l mp : Int) (w : World) :
    Calls Try.prog 22 #[hdv t l mp] w fun e w' => ∃ g, e = .returned (.func (.func 34) #[] #[.pointer (some ⟨g, 0, none⟩)]) ∧ Up w w' ∧ w.heap.size ≤ g ∧ Blk w' g 39 (hcs t l mp) :=
  (maker_any t l mp w).mono fun e w' h => ⟨_, h.1, h.2.1, Nat.le_refl _, h.2.2⟩

set_option maxRecDepth 100000 in
set_option maxHeartbeats 4000000 in
/-- There is room in the piece. -/
theorem make_a (m : Me) (P Q : Addr) (c d : Nat) (s a l x y t k mp size : Int) (w : World) (hm : Sits w m P Q c d) (hmp : 0 ≤ mp) (hh : rte t k mp = 0) (ht : t ≠ 255) (hs : s = 0 ∨ s = 1) (h0 : 0 ≤ x) (h1 : y ≤ m.n) (hn : wdn t k ≤ y - x) :
    Calls Try.prog 12 #[rov m.n (.slice (some P) m.n c) (.slice (some Q) m.n d) s a l x y, hdv t k mp, .int .i64 size] w (GivesR2 w (m.putm (adr s x) t k mp) s a l (x + wdn t k) y (adr s x) 0) := by
  have hw := wdn_small hmp hh
  have hr := fun w => right_any t k mp w
  rw [hh] at hr
  have hr := Lib.hid hr
  have hwd := Lib.hid (fun w => words_any t k mp hmp hh w)
  have hmk := Lib.hid (fun w => maker_at t k mp w)
  have hn4 := hm.1.2.1
  have hg := Lib.hid (fun w => gap_any m.n s a l x y (.slice (some P) m.n c) (.slice (some Q) m.n d) h0 (by omega) (by omega) (by omega) w)
  have hc := Lib.hid (fun (W : World) (g : Nat) (h : Up w W) (hH : Blk W g 39 (hcs t k mp)) => made_ok m P Q c d s x y t k mp g W (hm.up h) hmp hh ⟨hs, h0, by omega, by omega⟩ h1 hn hH)
  have hK := put_n m (adr s x) t k mp
  generalize m.putm (adr s x) t k mp = K at hc hK ⊢
  have hK := Lib.hid hK
  generalize adr s x = u at hc ⊢
  generalize x + wdn t k = x' at hc ⊢
  generalize wdn t k = n at hwd hw hn
  have hle : decide (n ≤ y - x) = true := decide_eq_true hn
  generalize y - x = q at hg hle
  have ht' : (t == 255) = false := beq_eq_false_iff_ne.mpr ht
  clear hm hmp hh hs h0 h1 hn hw hn4 ht
  go_enter Try.func12, Try.ntmps12
  go_wp2
  refine wp_scope_jumps 0 (fun _ _ => False) (fun a' _ => 0) rfl ?_ (fun _ _ hf => hf.elim)
  go_wp2_with (fail)
  refine calls_at (fun V hV => ?_)
  obtain ⟨U0, X0, H0, R0⟩ := three8 hV
  clear hV
  refine (hr.out _).mono ?_
  rintro e w1 ⟨rfl, k1⟩
  have X1 := X0.up k1
  have H1 := H0.up k1
  have R1 := R0.up k1
  have U1 := U0.trans k1
  clear k1 X0 H0 R0 U0
  have H1c := H1.cell
  go_wp2_with (fail)
  have V0 := (Up.refl w1).drew
  go_region_held3 (fun w' => ∀ i, w'.cell? ⟨w.heap.size + 1, i, none⟩ = (hcs t k mp)[i]?)
    (with_reducible exact fun i => (Blk.up H1 (by assumption)).cell i)
    (first
      | (go_at_call 21; ((with_reducible refine (hwd.out w1.drew).mono ?_); rintro e wa ⟨rfl, ha⟩; have UA := Up.trans V0 ha))
      | (go_at_call 22; ((with_reducible refine (hmk.out wa).mono ?_); rintro e wz ⟨g, rfl, hz, hgb, GZ⟩; have UZ := Up.trans UA hz; have hgz := Nat.le_trans UA.le hgb)))
  rename_i hHeld
  clear hHeld hwd hmk hr
  have hgw : w.heap.size + 1 + 1 < g := Nat.lt_of_lt_of_le R1.lt hgz
  have X2 := X1.up UZ
  have R2 := R1.up UZ
  have U2 := U1.trans UZ
  clear V0 X1 R1 U1 H1 H1c UZ hgz hgb ha UA hz
  go_wp2_with (fail)
  go_step3
  have X2c := X2.cell
  go_wp2_with (fail)
  refine (hg.out _).mono ?_
  rintro e w3 ⟨rfl, k3⟩
  have X3 := X2.up k3
  have R3 := R2.up k3
  have U3 := U2.trans k3
  have GZ := GZ.up k3
  clear k3 X2 X2c R2 U2
  have X3c := X3.cell
  go_wp2_with (fail)
  refine (hc.out _ g U3 GZ).mono ?_
  rintro e w4 ⟨P', Q', c', d', rfl, sz, k4⟩
  have X4 := X3.up k4
  have R4 := R3.up k4
  have U4 := U3.trans k4
  clear k4 X3 X3c R3 U3 GZ
  have X4c := X4.cell
  have X4f := X4.frozen
  have X4l := X4.lt
  have R4c := R4.cell
  have R4f := R4.frozen
  have R4l := R4.lt
  go_wp2_with (fail)
  (try simp only [Exit.inBlock, Exit.then])
  (try simp only [Exit.jump])
  refine bodyPost_ret (ret_room3 rfl _ _ _ _ _ _ _ _ _ _ _ _ _ rfl (((((R4.far (by simp <;> omega) _).far (by simp <;> omega) _).far (by simp <;> omega) _).far (by simp <;> omega) _).set8 _ _ _ _ _ _ _ _) rfl rfl) rfl ?_
  refine ⟨P', Q', c', d', by rw [hK.out]; rfl, sz.kp (S := [w.heap.size, w.heap.size + 1 + 1]) ?_ (Tiny.two X4 R4 (by simp) (by simp)), U4.kp (S := [w.heap.size, w.heap.size + 1 + 1]) ?_ (by simp <;> omega)⟩
  all_goals
    exact (Kp.set_ (Kp.set_ (Kp.set_ (Kp.set_ (Kp.set_ (Kp.set_ (Kp.set_ (Kp.set_ (Kp.set_ (Kp.set_ (Kp.set_ (Kp.set_ (Kp.refl _ _) (by simp) _) (by simp) _) (by simp) _) (by simp) _) (by simp) _) (by simp) _) (by simp) _) (by simp) _) (by simp) _) (by simp) _) (by simp) _) (by simp) _)

set_option maxRecDepth 100000 in
set_option maxHeartbeats 4000000 in
/-- There is no room in the piece, and it is made where the space goes on. -/
theorem make_b (m : Me) (P Q : Addr) (c d : Nat) (s a l x y t k mp size : Int) (w : World) (hm : Sits w m P Q c d) (hmp : 0 ≤ mp) (hh : rte t k mp = 0) (ht : t ≠ 255) (hs : rgt s a l) (h0 : 0 ≤ x) (h1 : y ≤ m.n) (h2 : l ≤ m.n) (h3 : x ≤ y) (hn : y - x < wdn t k) (hn2 : size < 2 * wdn t k) (hn3 : wdn t k ≤ l - a) :
    Calls Try.prog 12 #[rov m.n (.slice (some P) m.n c) (.slice (some Q) m.n d) s a l x y, hdv t k mp, .int .i64 size] w (GivesR2 w (m.putm (adr s a) t k mp) s (a + wdn t k) l x y (adr s a) 0) := by
  have hw := wdn_small hmp hh
  have hr := fun w => right_any t k mp w
  rw [hh] at hr
  have hr := Lib.hid hr
  have hwd := Lib.hid (fun w => words_any t k mp hmp hh w)
  have hmk := Lib.hid (fun w => maker_at t k mp w)
  have hn4 := hm.1.2.1
  have hg := Lib.hid (fun w => gap_any m.n s a l x y (.slice (some P) m.n c) (.slice (some Q) m.n d) h0 (by omega) (by omega) (by omega) w)
  have hc := Lib.hid (fun (W : World) (g : Nat) (h : Up w W) (hH : Blk W g 39 (hcs t k mp)) => made_ok m P Q c d s a l t k mp g W (hm.up h) hmp hh hs h2 hn3 hH)
  have hK := put_n m (adr s a) t k mp
  generalize m.putm (adr s a) t k mp = K at hc hK ⊢
  have hK := Lib.hid hK
  generalize adr s a = u at hc ⊢
  generalize a + wdn t k = a' at hc ⊢
  clear hn3 h2
  generalize wdn t k = n at hwd hw hn hn2
  have hle : decide (n ≤ y - x) = false := decide_eq_false (by omega)
  have b0 := hw.1
  have b1 := hw.2
  generalize y - x = q at hg hle
  have hd : decide (size < 2 * n) = true := decide_eq_true hn2
  clear hn2 h3
  have ht' : (t == 255) = false := beq_eq_false_iff_ne.mpr ht
  clear hm hmp hh hs h0 h1 hn hw hn4 ht
  go_enter Try.func12, Try.ntmps12
  go_wp2
  refine wp_scope_jumps 0 (fun _ _ => False) (fun a' _ => 0) rfl ?_ (fun _ _ hf => hf.elim)
  go_wp2_with (fail)
  refine calls_at (fun V hV => ?_)
  obtain ⟨U0, X0, H0, R0⟩ := three8 hV
  clear hV
  refine (hr.out _).mono ?_
  rintro e w1 ⟨rfl, k1⟩
  have X1 := X0.up k1
  have H1 := H0.up k1
  have R1 := R0.up k1
  have U1 := U0.trans k1
  clear k1 X0 H0 R0 U0
  have H1c := H1.cell
  go_wp2_with (fail)
  have V0 := (Up.refl w1).drew
  go_region_held3 (fun w' => ∀ i, w'.cell? ⟨w.heap.size + 1, i, none⟩ = (hcs t k mp)[i]?)
    (with_reducible exact fun i => (Blk.up H1 (by assumption)).cell i)
    (first
      | (go_at_call 21; ((with_reducible refine (hwd.out w1.drew).mono ?_); rintro e wa ⟨rfl, ha⟩; have UA := Up.trans V0 ha))
      | (go_at_call 22; ((with_reducible refine (hmk.out wa).mono ?_); rintro e wz ⟨g, rfl, hz, hgb, GZ⟩; have UZ := Up.trans UA hz; have hgz := Nat.le_trans UA.le hgb)))
  rename_i hHeld
  clear hHeld hwd hmk hr
  have hgw : w.heap.size + 1 + 1 < g := Nat.lt_of_lt_of_le R1.lt hgz
  have X2 := X1.up UZ
  have R2 := R1.up UZ
  have U2 := U1.trans UZ
  clear V0 X1 R1 U1 H1 H1c UZ hgz hgb ha UA hz
  go_wp2_with (fail)
  go_step3
  have X2c := X2.cell
  go_wp2_with (fail)
  refine (hg.out _).mono ?_
  rintro e w3 ⟨rfl, k3⟩
  have X3 := X2.up k3
  have R3 := R2.up k3
  have U3 := U2.trans k3
  have GZ := GZ.up k3
  clear k3 X2 X2c R2 U2
  have X3c := X3.cell
  go_wp2_with (fail)
  refine (hc.out _ g U3 GZ).mono ?_
  rintro e w4 ⟨P', Q', c', d', rfl, sz, k4⟩
  have X4 := X3.up k4
  have R4 := R3.up k4
  have U4 := U3.trans k4
  clear k4 X3 X3c R3 U3 GZ
  have X4c := X4.cell
  have X4f := X4.frozen
  have X4l := X4.lt
  have R4c := R4.cell
  have R4f := R4.frozen
  have R4l := R4.lt
  go_wp2_with (fail)
  (try simp only [Exit.inBlock, Exit.then])
  (try simp only [Exit.jump])
  refine bodyPost_ret (ret_room3 rfl _ _ _ _ _ _ _ _ _ _ _ _ _ rfl (((((R4.far (by simp <;> omega) _).far (by simp <;> omega) _).far (by simp <;> omega) _).far (by simp <;> omega) _).set8 _ _ _ _ _ _ _ _) rfl rfl) rfl ?_
  refine ⟨P', Q', c', d', by rw [hK.out]; rfl, sz.kp (S := [w.heap.size, w.heap.size + 1 + 1]) ?_ (Tiny.two X4 R4 (by simp) (by simp)), U4.kp (S := [w.heap.size, w.heap.size + 1 + 1]) ?_ (by simp <;> omega)⟩
  all_goals
    exact (Kp.set_ (Kp.set_ (Kp.set_ (Kp.set_ (Kp.set_ (Kp.set_ (Kp.set_ (Kp.set_ (Kp.set_ (Kp.set_ (Kp.set_ (Kp.set_ (Kp.refl _ _) (by simp) _) (by simp) _) (by simp) _) (by simp) _) (by simp) _) (by simp) _) (by simp) _) (by simp) _) (by simp) _) (by simp) _) (by simp) _) (by simp) _)

set_option maxRecDepth 100000 in
set_option maxHeartbeats 4000000 in
/-- There is no room in the piece, and none where the space goes on. -/
theorem make_bf (m : Me) (P Q : Addr) (c d : Nat) (s a l x y t k mp size : Int) (w : World) (hm : Sits w m P Q c d) (hmp : 0 ≤ mp) (hh : rte t k mp = 0) (ht : t ≠ 255) (hs : rgt s a l) (h0 : 0 ≤ x) (h1 : y ≤ m.n) (h3 : x ≤ y) (hn : y - x < wdn t k) (hn2 : size < 2 * wdn t k) (hn3 : l - a < wdn t k) :
    Calls Try.prog 12 #[rov m.n (.slice (some P) m.n c) (.slice (some Q) m.n d) s a l x y, hdv t k mp, .int .i64 size] w (GivesR2 w m s a l x y 0 4) := by
  have hw := wdn_small hmp hh
  have hr := fun w => right_any t k mp w
  rw [hh] at hr
  have hr := Lib.hid hr
  have hwd := Lib.hid (fun w => words_any t k mp hmp hh w)
  have hmk := Lib.hid (fun w => maker_at t k mp w)
  have hn4 := hm.1.2.1
  have hg := Lib.hid (fun w => gap_any m.n s a l x y (.slice (some P) m.n c) (.slice (some Q) m.n d) h0 (by omega) (by omega) (by omega) w)
  have hc := Lib.hid (fun (W : World) (g : Nat) (h : Up w W) (hH : Blk W g 39 (hcs t k mp)) => made_full m P Q c d s a l t k mp g W (hm.up h) hmp hh hs hn3 hH)
  clear hn3
  generalize wdn t k = n at hwd hw hn hn2
  have hle : decide (n ≤ y - x) = false := decide_eq_false (by omega)
  have b0 := hw.1
  have b1 := hw.2
  generalize y - x = q at hg hle
  have hd : decide (size < 2 * n) = true := decide_eq_true hn2
  clear hn2 h3
  have ht' : (t == 255) = false := beq_eq_false_iff_ne.mpr ht
  clear hm hmp hh hs h0 h1 hn hw hn4 ht
  go_enter Try.func12, Try.ntmps12
  go_wp2
  refine wp_scope_jumps 0 (fun _ _ => False) (fun a' _ => 0) rfl ?_ (fun _ _ hf => hf.elim)
  go_wp2_with (fail)
  refine calls_at (fun V hV => ?_)
  obtain ⟨U0, X0, H0, R0⟩ := three8 hV
  clear hV
  refine (hr.out _).mono ?_
  rintro e w1 ⟨rfl, k1⟩
  have X1 := X0.up k1
  have H1 := H0.up k1
  have R1 := R0.up k1
  have U1 := U0.trans k1
  clear k1 X0 H0 R0 U0
  have H1c := H1.cell
  go_wp2_with (fail)
  have V0 := (Up.refl w1).drew
  go_region_held3 (fun w' => ∀ i, w'.cell? ⟨w.heap.size + 1, i, none⟩ = (hcs t k mp)[i]?)
    (with_reducible exact fun i => (Blk.up H1 (by assumption)).cell i)
    (first
      | (go_at_call 21; ((with_reducible refine (hwd.out w1.drew).mono ?_); rintro e wa ⟨rfl, ha⟩; have UA := Up.trans V0 ha))
      | (go_at_call 22; ((with_reducible refine (hmk.out wa).mono ?_); rintro e wz ⟨g, rfl, hz, hgb, GZ⟩; have UZ := Up.trans UA hz; have hgz := Nat.le_trans UA.le hgb)))
  rename_i hHeld
  clear hHeld hwd hmk hr
  have hgw : w.heap.size + 1 + 1 < g := Nat.lt_of_lt_of_le R1.lt hgz
  have X2 := X1.up UZ
  have R2 := R1.up UZ
  have U2 := U1.trans UZ
  clear V0 X1 R1 U1 H1 H1c UZ hgz hgb ha UA hz
  go_wp2_with (fail)
  go_step3
  have X2c := X2.cell
  go_wp2_with (fail)
  refine (hg.out _).mono ?_
  rintro e w3 ⟨rfl, k3⟩
  have X3 := X2.up k3
  have R3 := R2.up k3
  have U3 := U2.trans k3
  have GZ := GZ.up k3
  clear k3 X2 X2c R2 U2
  have X3c := X3.cell
  go_wp2_with (fail)
  refine (hc.out _ g U3 GZ).mono ?_
  rintro e w4 ⟨P', Q', c', d', rfl, sz, k4⟩
  have X4 := X3.up k4
  have R4 := R3.up k4
  have U4 := U3.trans k4
  clear k4 X3 X3c R3 U3 GZ
  have X4c := X4.cell
  have X4f := X4.frozen
  have X4l := X4.lt
  have R4c := R4.cell
  have R4f := R4.frozen
  have R4l := R4.lt
  go_wp2_with (fail)
  (try simp only [Exit.inBlock, Exit.then])
  (try simp only [Exit.jump])
  refine bodyPost_ret (ret_room3 rfl _ _ _ _ _ _ _ _ _ _ _ _ _ rfl (((((R4.far (by simp <;> omega) _).far (by simp <;> omega) _).far (by simp <;> omega) _).far (by simp <;> omega) _).set8 _ _ _ _ _ _ _ _) rfl rfl) rfl ?_
  refine ⟨P', Q', c', d', by rfl, sz.kp (S := [w.heap.size, w.heap.size + 1 + 1]) ?_ (Tiny.two X4 R4 (by simp) (by simp)), U4.kp (S := [w.heap.size, w.heap.size + 1 + 1]) ?_ (by simp <;> omega)⟩
  all_goals
    exact (Kp.set_ (Kp.set_ (Kp.set_ (Kp.set_ (Kp.set_ (Kp.set_ (Kp.set_ (Kp.set_ (Kp.set_ (Kp.set_ (Kp.set_ (Kp.set_ (Kp.refl _ _) (by simp) _) (by simp) _) (by simp) _) (by simp) _) (by simp) _) (by simp) _) (by simp) _) (by simp) _) (by simp) _) (by simp) _) (by simp) _) (by simp) _)
end Go.Proofs.Ytjolikgficknnaa
