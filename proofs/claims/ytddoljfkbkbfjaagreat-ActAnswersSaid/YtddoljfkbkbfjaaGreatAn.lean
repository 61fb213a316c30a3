/- Objects that are made in rooms: contracts. -/
import Derived.Test.YtddoljfkbkbfjaaGreatAm
import Derived.BigQuiet
import Derived.Deep.QuietTactic
/-! Of stage 8 -/
namespace Go.Proofs.YtddoljfkbkbfjaaGreat
open Go.ChangeShapes Go.WideShapes Go.ChangeAt Go.RowKit
set_option linter.unusedVariables false
set_option linter.unusedSimpArgs false

/-- Memory behind Retire. -/
def Me.rtm (m : Me) (s x y : Int) : Me := if x < y then m.fillm (adr s x) (y - x) else m
theorem fillm_n (m : Me) (a n : Int) : (m.fillm a n).n = m.n := by
  unfold Me.fillm
  split
  · exact put_n m _ _ _ _
  · rfl
theorem rtm_n (m : Me) (s x y : Int) : (m.rtm s x y).n = m.n := by
  unfold Me.rtm
  split
  · exact fillm_n m _ _
  · rfl
theorem retire_any (m : Me) (P Q : Addr) (c d : Nat) (s a l x y : Int) (w : World) (hm : Sits w m P Q c d) (hs : s = 0 ∨ s = 1) (h0 : 0 ≤ x) (h1 : x ≤ y) (h2 : y ≤ 4096) :
    Calls Tryz.prog 133 #[rov m.n (.slice (some P) m.n c) (.slice (some Q) m.n d) s a l x y] w (GivesR w (m.rtm s x y) s a l 0 0) := by
  by_cases h : x < y
  · rw [show m.rtm s x y = _ from if_pos h]
    exact retire_fill m P Q c d s a l x y w hm hs h0 h h2
  · obtain rfl : y = x := by omega
    rw [show m.rtm s y y = m from if_neg h]
    exact (retire_none m.n s a l y (some P) (some Q) m.n m.n c d h0 h2 w).mono fun e w' q => ⟨P, Q, c, d, q.1, hm.up q.2, q.2⟩
theorem msa_is (s a l k : Int) (h : rgt s a l) : msa s a l k = a + msk s a l k := by
  unfold msa msk
  split
  · rfl
  · split <;> omega
theorem msk_le (s a l k n : Int) (h : rgt s a l) (h1 : 1 ≤ n) (h2 : 2 * n ≤ k) : (0 ≤ msk s a l k ∧ msk s a l k ≤ l - a) ∧ (n ≤ l - a → n ≤ msk s a l k) ∧ (l - a < n → msk s a l k < n) := by
  obtain ⟨h3, h4, h5, h6⟩ := h
  unfold msk
  split
  · rename_i q
    have := q.2
    omega
  · rename_i q
    have q' : l - a < k := by
      rcases Int.lt_or_le (l - a) k with q' | q'
      · exact q'
      · exact absurd ⟨⟨h3, h4, h5, h6⟩, by omega, q'⟩ q
    split
    · omega
    · rename_i r
      have r' : l - a < 1 := by
        rcases Int.lt_or_le (l - a) 1 with r' | r'
        · exact r'
        · exact absurd ⟨⟨h3, h4, h5, h6⟩, q', r'⟩ r
      omega

/-- What holds at the label, with a new piece. -/
def AtMk (m K : Me) (rm hd : Value) (hc : Array Value) (s a l b n size : Int) (w : World) (a' : Act) (w' : World) : Prop :=
  ∃ (g : Nat) (u13 u14 u15 u16 u17 u18 u19 u20 u21 u22 u23 u24 u25 u26 u27 u28 u29 u30 u31 u32 u33 u34 u35 u36 u37 u38 u39 u40 u41 u42 u43 u44 u45 u46 u47 u48 u49 u50 u51 u52 u53 u54 u55 u56 u57 u58 u59 u60 u61 u62 u63 u64 u65 u66 u67 u68 u69 u70 u71 u72 u73 u74 u75 u76 u77 u78 u79 u80 u81 u82 u83 u84 u85 u86 u87 u88 u89 u90 u91 : Value) (P Q : Addr) (c d : Nat),
    a' = { tmps := #[rm, hd, .int .i64 size, .pointer (some ⟨w.heap.size, 0, none⟩), .pointer (some ⟨w.heap.size + 1, 0, none⟩), undef, .pointer (some ⟨w.heap.size + 1 + 1, 0, none⟩), .int .u64 0, .int .i64 0, .int .u64 0, .int .i64 0, .int .i64 n, .func (.func 149) #[] #[.pointer (some ⟨g, 0, none⟩)], u13, u14, u15, u16, u17, u18, u19, u20, u21, u22, u23, u24, u25, u26, u27, u28, u29, u30, u31, u32, u33, u34, u35, u36, u37, u38, u39, u40, u41, u42, u43, u44, u45, u46, u47, u48, u49, u50, u51, u52, u53, u54, u55, u56, u57, u58, u59, u60, u61, u62, u63, u64, u65, u66, u67, u68, u69, u70, u71, u72, u73, u74, u75, u76, u77, u78, u79, u80, u81, u82, u83, u84, u85, u86, u87, u88, u89, u90, u91], defers := [] }
      ∧ Up w w' ∧ Blk w' w.heap.size 150 (roc m.n (.slice (some P) m.n c) (.slice (some Q) m.n d) s b l a b) ∧ Blk w' (w.heap.size + 1 + 1) 150 (roc 0 (.slice none 0 0) (.slice none 0 0) 0 0 0 0 0)
      ∧ Sits w' K P Q c d ∧ Blk w' g 60 hc ∧ w.heap.size + 1 + 1 < g

set_option maxRecDepth 100000 in
set_option maxHeartbeats 4000000 in
/-- There is no piece, and none can be taken that is long enough. -/
theorem make_cef (m : Me) (P Q : Addr) (c d : Nat) (s a l t k mp size : Int) (w : World) (hm : Sits w m P Q c d) (hmp : 0 ≤ mp) (hh : rte t k mp = 0) (ht : t ≠ 255) (hs : rgt s a l) (h2 : l = m.n) (hn2 : 2 * wdn t k ≤ size) (hn3 : l - a < wdn t k) :
    Calls Tryz.prog 103 #[rov m.n (.slice (some P) m.n c) (.slice (some Q) m.n d) s a l 0 0, hdv t k mp, .int .i64 size] w (GivesR2 w m s a l 0 0 0 4) := by
  have hn : (0 : Int) < wdn t k := by have := (wdn_small hmp hh).1; omega
  have hw := wdn_small hmp hh
  have hr := fun w => right_any t k mp w
  rw [hh] at hr
  have hr := Lib.hid hr
  have hwd := Lib.hid (fun w => words_any t k mp hmp hh w)
  have hmk := Lib.hid (fun w => maker_at t k mp w)
  have hn4 := hm.1.2.1
  have hg := Lib.hid (fun w => gap_any m.n s a l 0 0 (.slice (some P) m.n c) (.slice (some Q) m.n d) (by omega) (by omega) (by omega) (by omega) w)
  have hk := msk_le s a l size (wdn t k) hs hw.1 hn2
  have hre := fun (A0 A1 : Option Addr) (c0 c1 : Nat) (w : World) => renewed_any m.n s a l 0 0 size A0 A1 m.n m.n c0 c1 hs w
  have hma := msa_is s a l size hs
  rw [← hma] at hre
  have hg2 := fun (A B : Value) (w : World) => gap_any m.n s (msa s a l size) l a (msa s a l size) A B hs.2.1 (by have := hs.2.2; omega) (by have := hs.2.1; omega) (by have := hs.2.2; omega) w
  rw [show msa s a l size - a = msk s a l size from by omega] at hg2
  have hKn : m.n = m.n := rfl
  have hem := fun w => empty_any 0 0 w
  rw [show tsame 0 0 0 0 = true from rfl] at hem
  have hem := Lib.hid hem
  have hre := Lib.hid hre
  have hg2 := Lib.hid hg2
  generalize msk s a l size = z at hk hg2 hma
  generalize msa s a l size = b at hre hg2 hma
  generalize wdn t k = n at hwd hw hn hn2 hn3 hk
  have hle : decide (n ≤ 0) = false := decide_eq_false (by omega)
  rw [show (0 : Int) - 0 = 0 from rfl] at hg
  have b0 := hw.1
  have b1 := hw.2
  have hd : decide (size < 2 * n) = false := decide_eq_false (by omega)
  have hz : decide (z < n) = true := decide_eq_true (hk.2.2 hn3)
  have HM := Lib.hid hm
  have ht' : (t == 255) = false := beq_eq_false_iff_ne.mpr ht
  clear hm hmp hh hs hn hn2 hn3 hw hn4 ht hk hma h2
  have HKn := Lib.hid hKn
  go_enter Tryz.func103, Tryz.ntmps103
  go_wp2
  refine wp_scope_jumps 0 (fun _ _ => False) (fun a' _ => 0) rfl ?_ (fun _ _ hf => hf.elim)
  go_wp2_with (fail)
  refine calls_at (fun V hV => ?_)
  obtain ⟨U0, X0, H0, R0⟩ := three8 hV
  clear hV
  refine (hr.out _).mono ?_
  rintro e w1 ⟨rfl, k1⟩
  have X1 := X0.up k1
  have H1 := H0.up k1
  have R1 := R0.up k1
  have U1 := U0.trans k1
  clear k1 X0 H0 R0 U0
  have H1c := H1.cell
  go_wp2_with (fail)
  have V0 := (Up.refl w1).drew
  go_region_held3 (fun w' => ∀ i, w'.cell? ⟨w.heap.size + 1, i, none⟩ = (hcs t k mp)[i]?)
    (with_reducible exact fun i => (Blk.up H1 (by assumption)).cell i)
    (first
      | (go_at_call 129; ((with_reducible refine (hwd.out w1.drew).mono ?_); rintro e wa ⟨rfl, ha⟩; have UA := Up.trans V0 ha))
      | (go_at_call 130; ((with_reducible refine (hmk.out wa).mono ?_); rintro e wz ⟨g, rfl, hz, hgb, GZ⟩; have UZ := Up.trans UA hz; have hgz := Nat.le_trans UA.le hgb)))
  rename_i hHeld
  clear hHeld hwd hmk hr
  have hgw : w.heap.size + 1 + 1 < g := Nat.lt_of_lt_of_le R1.lt hgz
  have X2 := X1.up UZ
  have R2 := R1.up UZ
  have U2 := U1.trans UZ
  clear V0 X1 R1 U1 H1 H1c UZ hgz hgb ha UA hz
  go_wp2_with (fail)
  go_step3
  have X2c := X2.cell
  go_wp2_with (fail)
  refine (hg.out _).mono ?_
  rintro e w3 ⟨rfl, k3⟩
  have X3 := X2.up k3
  have R3 := R2.up k3
  have U3 := U2.trans k3
  have GZ := GZ.up k3
  clear k3 X2 X2c R2 U2
  have X3c := X3.cell
  go_wp2_with (fail)
  refine (hem.out _).mono ?_
  rintro e w4 ⟨rfl, k4⟩
  have X4 := X3.up k4
  have R4 := R3.up k4
  have U4 := U3.trans k4
  have GZ := GZ.up k4
  clear k4 X3 X3c R3 U3
  have X4c := X4.cell
  go_wp2_with (fail)
  refine calls_at (fun V6 hV6 => ?_)
  subst hV6
  have X6 := X4
  have R6 := R4
  have U6 := U4
  have S6 := HM.out.up U4
  clear X4 X4c R4 U4
  refine (hre.out (some P) (some Q) c d _).mono ?_
  rintro e w7 ⟨rfl, k7⟩
  have X7 := X6.up k7
  have R7 := R6.up k7
  have U7 := U6.trans k7
  have S7 := S6.up k7
  have GZ := GZ.up k7
  clear k7 X6 R6 U6 S6
  have X7c := X7.cell
  go_wp2_with (fail)
  refine calls_at (fun V8 hV8 => ?_)
  have k8 : Up w7 V8 := by rw [hV8]; exact (Up.refl _).alloc _
  have N8 : Blk V8 w7.heap.size 150 (roc m.n (.slice (some P) m.n c) (.slice (some Q) m.n d) s b l a b) := by rw [hV8]; exact Blk.new _ _ _
  clear hV8
  refine (hg2.out _ _ _).mono ?_
  rintro e w9 ⟨rfl, k9⟩
  have N9 := N8.up k9
  replace k9 := k8.trans k9
  have X9 := X7.up k9
  have R9 := R7.up k9
  have U9 := U7.trans k9
  have S9 := S7.up k9
  have GZ := GZ.up k9
  have hN9 : w.heap.size < w7.heap.size := X7.lt
  clear k9 k8 X7 R7 U7 S7 X7c N8
  have N9c := N9.cell
  have N9l := N9.lt
  have X9c := X9.cell
  have X9f := X9.frozen
  have X9l := X9.lt
  have R9c := R9.cell
  have R9f := R9.frozen
  have R9l := R9.lt
  go_wp2_with (fail)
  (try simp only [Exit.inBlock, Exit.then])
  (try simp only [Exit.jump])
  refine bodyPost_ret (ret_room3 rfl _ _ _ _ _ _ _ _ _ _ _ _ _ rfl (R9.set8 _ _ _ _ _ _ _ _) rfl rfl) rfl ?_
  refine ⟨P, Q, c, d, by rfl, S9.kp (S := [w.heap.size, w.heap.size + 1 + 1]) ?_ (Tiny.two X9 R9 (by simp) (by simp)), U9.kp (S := [w.heap.size, w.heap.size + 1 + 1]) ?_ (by simp <;> omega)⟩
  all_goals
    exact (Kp.set_ (Kp.set_ (Kp.set_ (Kp.set_ (Kp.set_ (Kp.set_ (Kp.set_ (Kp.set_ (Kp.refl _ _) (by simp) _) (by simp) _) (by simp) _) (by simp) _) (by simp) _) (by simp) _) (by simp) _) (by simp) _)

end Go.Proofs.YtddoljfkbkbfjaaGreat
/-! Of stage 8 -/
namespace Go.Proofs.YtddoljfkbkbfjaaGreat
open Go.ChangeShapes Go.WideShapes Go.ChangeAt Go.RowKit
set_option linter.unusedVariables false
set_option linter.unusedSimpArgs false

set_option maxRecDepth 100000 in
set_option maxHeartbeats 4000000 in
/-- There is no piece: a new one is taken. -/
theorem make_ce (m : Me) (P Q : Addr) (c d : Nat) (s a l t k mp size : Int) (w : World) (hm : Sits w m P Q c d) (hmp : 0 ≤ mp) (hh : rte t k mp = 0) (ht : t ≠ 255) (hs : rgt s a l) (h2 : l = m.n) (hn2 : 2 * wdn t k ≤ size) (hn3 : wdn t k ≤ l - a) :
    Calls Tryz.prog 103 #[rov m.n (.slice (some P) m.n c) (.slice (some Q) m.n d) s a l 0 0, hdv t k mp, .int .i64 size] w (GivesR2 w (m.putm (adr s a) t k mp) s (msa s a l size) l (a + wdn t k) (msa s a l size) (adr s a) 0) := by
  have hn : (0 : Int) < wdn t k := by have := (wdn_small hmp hh).1; omega
  have hw := wdn_small hmp hh
  have hr := fun w => right_any t k mp w
  rw [hh] at hr
  have hr := Lib.hid hr
  have hwd := Lib.hid (fun w => words_any t k mp hmp hh w)
  have hmk := Lib.hid (fun w => maker_at t k mp w)
  have hn4 := hm.1.2.1
  have hg := Lib.hid (fun w => gap_any m.n s a l 0 0 (.slice (some P) m.n c) (.slice (some Q) m.n d) (by omega) (by omega) (by omega) (by omega) w)
  have hk := msk_le s a l size (wdn t k) hs hw.1 hn2
  have hre := fun (A0 A1 : Option Addr) (c0 c1 : Nat) (w : World) => renewed_any m.n s a l 0 0 size A0 A1 m.n m.n c0 c1 hs w
  have hma := msa_is s a l size hs
  rw [← hma] at hre
  have hg2 := fun (A B : Value) (w : World) => gap_any m.n s (msa s a l size) l a (msa s a l size) A B hs.2.1 (by have := hs.2.2; omega) (by have := hs.2.1; omega) (by have := hs.2.2; omega) w
  rw [show msa s a l size - a = msk s a l size from by omega] at hg2
  have hKn : m.n = m.n := rfl
  have hem := fun w => empty_any 0 0 w
  rw [show tsame 0 0 0 0 = true from rfl] at hem
  have hem := Lib.hid hem
  have hc := fun (P Q : Addr) (c d : Nat) (W : World) (g : Nat) (hS : Sits W m P Q c d) (hH : Blk W g 60 (hcs t k mp)) => made_ok m P Q c d s a (msa s a l size) t k mp g W hS hmp hh ⟨hs.1, hs.2.1, by omega, by have := hs.2.2; omega⟩ (by rw [hKn]; have := hs.2.2; omega) (by omega) hH
  have hK := put_n m (adr s a) t k mp
  rw [hKn] at hc hK
  generalize m.putm (adr s a) t k mp = L at hc hK ⊢
  have hK := Lib.hid hK
  have hc := Lib.hid hc
  generalize adr s a = u at hc ⊢
  generalize a + wdn t k = a' at hc ⊢
  have hre := Lib.hid hre
  have hg2 := Lib.hid hg2
  generalize msk s a l size = z at hk hg2 hma
  generalize msa s a l size = b at hre hg2 hma hc ⊢
  generalize wdn t k = n at hwd hw hn hn2 hn3 hk
  have hle : decide (n ≤ 0) = false := decide_eq_false (by omega)
  rw [show (0 : Int) - 0 = 0 from rfl] at hg
  have b0 := hw.1
  have b1 := hw.2
  have hd : decide (size < 2 * n) = false := decide_eq_false (by omega)
  have hz : decide (z < n) = false := decide_eq_false (by have := hk.2.1 hn3; omega)
  have hz2 : decide (n ≤ z) = true := decide_eq_true (hk.2.1 hn3)
  have HM := Lib.hid hm
  have ht' : (t == 255) = false := beq_eq_false_iff_ne.mpr ht
  clear hm hmp hh hs hn hn2 hn3 hw hn4 ht hk hma h2
  have HKn := Lib.hid hKn
  go_enter Tryz.func103, Tryz.ntmps103
  go_wp2
  refine wp_scope_jumps 0 (AtMk m m (rov m.n (.slice (some P) m.n c) (.slice (some Q) m.n d) s a l 0 0) (hdv t k mp) (hcs t k mp) s a l b n size w) (fun a' _ => 0) rfl ?_ ?_
  · go_wp2_with (fail)
    refine calls_at (fun V hV => ?_)
    obtain ⟨U0, X0, H0, R0⟩ := three8 hV
    clear hV
    refine (hr.out _).mono ?_
    rintro e w1 ⟨rfl, k1⟩
    have X1 := X0.up k1
    have H1 := H0.up k1
    have R1 := R0.up k1
    have U1 := U0.trans k1
    clear k1 X0 H0 R0 U0
    have H1c := H1.cell
    go_wp2_with (fail)
    have V0 := (Up.refl w1).drew
    go_region_held3 (fun w' => ∀ i, w'.cell? ⟨w.heap.size + 1, i, none⟩ = (hcs t k mp)[i]?)
      (with_reducible exact fun i => (Blk.up H1 (by assumption)).cell i)
      (first
        | (go_at_call 129; ((with_reducible refine (hwd.out w1.drew).mono ?_); rintro e wa ⟨rfl, ha⟩; have UA := Up.trans V0 ha))
        | (go_at_call 130; ((with_reducible refine (hmk.out wa).mono ?_); rintro e wz ⟨g, rfl, hz, hgb, GZ⟩; have UZ := Up.trans UA hz; have hgz := Nat.le_trans UA.le hgb)))
    rename_i hHeld
    clear hHeld hwd hmk hr
    have hgw : w.heap.size + 1 + 1 < g := Nat.lt_of_lt_of_le R1.lt hgz
    have X2 := X1.up UZ
    have R2 := R1.up UZ
    have U2 := U1.trans UZ
    clear V0 X1 R1 U1 H1 H1c UZ hgz hgb ha UA hz
    go_wp2_with (fail)
    go_step3
    have X2c := X2.cell
    go_wp2_with (fail)
    refine (hg.out _).mono ?_
    rintro e w3 ⟨rfl, k3⟩
    have X3 := X2.up k3
    have R3 := R2.up k3
    have U3 := U2.trans k3
    have GZ := GZ.up k3
    clear k3 X2 X2c R2 U2
    have X3c := X3.cell
    go_wp2_with (fail)
    refine (hem.out _).mono ?_
    rintro e w4 ⟨rfl, k4⟩
    have X4 := X3.up k4
    have R4 := R3.up k4
    have U4 := U3.trans k4
    have GZ := GZ.up k4
    clear k4 X3 X3c R3 U3
    have X4c := X4.cell
    go_wp2_with (fail)
    refine calls_at (fun V6 hV6 => ?_)
    subst hV6
    have X6 := X4
    have R6 := R4
    have U6 := U4
    have S6 := HM.out.up U4
    clear X4 X4c R4 U4
    refine (hre.out (some P) (some Q) c d _).mono ?_
    rintro e w7 ⟨rfl, k7⟩
    have X7 := X6.up k7
    have R7 := R6.up k7
    have U7 := U6.trans k7
    have S7 := S6.up k7
    have GZ := GZ.up k7
    clear k7 X6 R6 U6 S6
    have X7c := X7.cell
    go_wp2_with (fail)
    refine calls_at (fun V8 hV8 => ?_)
    have k8 : Up w7 V8 := by rw [hV8]; exact (Up.refl _).alloc _
    have N8 : Blk V8 w7.heap.size 150 (roc m.n (.slice (some P) m.n c) (.slice (some Q) m.n d) s b l a b) := by rw [hV8]; exact Blk.new _ _ _
    clear hV8
    refine (hg2.out _ _ _).mono ?_
    rintro e w9 ⟨rfl, k9⟩
    have N9 := N8.up k9
    replace k9 := k8.trans k9
    have X9 := X7.up k9
    have R9 := R7.up k9
    have U9 := U7.trans k9
    have S9 := S7.up k9
    have GZ := GZ.up k9
    have hN9 : w.heap.size < w7.heap.size := X7.lt
    clear k9 k8 X7 R7 U7 S7 X7c N8
    have N9c := N9.cell
    have N9l := N9.lt
    have X9c := X9.cell
    have X9f := X9.frozen
    have X9l := X9.lt
    have R9c := R9.cell
    have R9f := R9.frozen
    have R9l := R9.lt
    go_wp2_with (fail)
    go_step3
    refine ⟨rfl, g, _, _, _, _, _, _, _, _, _, _, _, _, _, _, _, _, _, _, _, _, _, _, _, _, _, _, _, _, _, _, _, _, _, _, _, _, _, _, _, _, _, _, _, _, _, _, _, _, _, _, _, _, _, _, _, _, _, _, _, _, _, _, _, _, _, _, _, _, _, _, _, _, _, _, _, _, _, _, _, P, Q, c, d, rfl, U9.set8 (Nat.le_refl _) _ _ _ _ _ _ _ _, X9.set8 _ _ _ _ _ _ _ _, ((((((((R9.far (by simp <;> omega) _).far (by simp <;> omega) _).far (by simp <;> omega) _).far (by simp <;> omega) _).far (by simp <;> omega) _).far (by simp <;> omega) _).far (by simp <;> omega) _).far (by simp <;> omega) _), S9.far8 X9 _ _ _ _ _ _ _ _, ((((((((GZ.far (by simp <;> omega) _).far (by simp <;> omega) _).far (by simp <;> omega) _).far (by simp <;> omega) _).far (by simp <;> omega) _).far (by simp <;> omega) _).far (by simp <;> omega) _).far (by simp <;> omega) _), hgw⟩
  · rintro a_ wr ⟨g, u13, u14, u15, u16, u17, u18, u19, u20, u21, u22, u23, u24, u25, u26, u27, u28, u29, u30, u31, u32, u33, u34, u35, u36, u37, u38, u39, u40, u41, u42, u43, u44, u45, u46, u47, u48, u49, u50, u51, u52, u53, u54, u55, u56, u57, u58, u59, u60, u61, u62, u63, u64, u65, u66, u67, u68, u69, u70, u71, u72, u73, u74, u75, u76, u77, u78, u79, u80, u81, u82, u83, u84, u85, u86, u87, u88, u89, u90, u91, P1, Q1, c1, d1, rfl, U2, X2, R2, S2, GZ, hgw⟩
    have X2c := X2.cell
    go_wp2_with (fail)
    refine (hg2.out _ _ _).mono ?_
    rintro e w3 ⟨rfl, k3⟩
    have X3 := X2.up k3
    have R3 := R2.up k3
    have U3 := U2.trans k3
    have GZ := GZ.up k3
    have S3 := S2.up k3
    clear k3 X2 X2c R2 U2
    have X3c := X3.cell
    go_wp2_with (fail)
    refine (hc.out P1 Q1 c1 d1 _ g S3 GZ).mono ?_
    rintro e w4 ⟨P', Q', c', d', rfl, sz, k4⟩
    have X4 := X3.up k4
    have R4 := R3.up k4
    have U4 := U3.trans k4
    clear k4 X3 X3c R3 U3 GZ
    have X4c := X4.cell
    have X4f := X4.frozen
    have X4l := X4.lt
    have R4c := R4.cell
    have R4f := R4.frozen
    have R4l := R4.lt
    go_wp2_with (fail)
    (try simp only [Exit.inBlock, Exit.then])
    (try simp only [Exit.jump])
    refine bodyPost_ret (ret_room3 rfl _ _ _ _ _ _ _ _ _ _ _ _ _ rfl (((((R4.far (by simp <;> omega) _).far (by simp <;> omega) _).far (by simp <;> omega) _).far (by simp <;> omega) _).set8 _ _ _ _ _ _ _ _) rfl rfl) rfl ?_
    refine ⟨P', Q', c', d', by rw [hK.out]; rfl, sz.kp (S := [w.heap.size, w.heap.size + 1 + 1]) ?_ (Tiny.two X4 R4 (by simp) (by simp)), U4.kp (S := [w.heap.size, w.heap.size + 1 + 1]) ?_ (by simp <;> omega)⟩
    all_goals
      exact (Kp.set_ (Kp.set_ (Kp.set_ (Kp.set_ (Kp.set_ (Kp.set_ (Kp.set_ (Kp.set_ (Kp.set_ (Kp.set_ (Kp.set_ (Kp.set_ (Kp.refl _ _) (by simp) _) (by simp) _) (by simp) _) (by simp) _) (by simp) _) (by simp) _) (by simp) _) (by simp) _) (by simp) _) (by simp) _) (by simp) _) (by simp) _)

end Go.Proofs.YtddoljfkbkbfjaaGreat
/-! Of stage 8 -/
namespace Go.Proofs.YtddoljfkbkbfjaaGreat
open Go.ChangeShapes Go.WideShapes Go.ChangeAt Go.RowKit
set_option linter.unusedVariables false
set_option linter.unusedSimpArgs false

set_option maxRecDepth 100000 in
set_option maxHeartbeats 4000000 in
/-- The piece is filled, and no new one is long enough. -/
theorem make_cf (m : Me) (P Q : Addr) (c d : Nat) (s a l x y t k mp size : Int) (w : World) (hm : Sits w m P Q c d) (hmp : 0 ≤ mp) (hh : rte t k mp = 0) (ht : t ≠ 255) (hs : rgt s a l) (h2 : l = m.n) (h0 : 0 ≤ x) (h3 : x ≤ y) (h1 : y ≤ m.n) (hne : x ≠ 0 ∨ y ≠ 0) (hn : y - x < wdn t k) (hn2 : 2 * wdn t k ≤ size) (hn3 : l - a < wdn t k) :
    Calls Tryz.prog 103 #[rov m.n (.slice (some P) m.n c) (.slice (some Q) m.n d) s a l x y, hdv t k mp, .int .i64 size] w (GivesR2 w (m.rtm s x y) s a l 0 0 0 4) := by
  have hw := wdn_small hmp hh
  have hr := fun w => right_any t k mp w
  rw [hh] at hr
  have hr := Lib.hid hr
  have hwd := Lib.hid (fun w => words_any t k mp hmp hh w)
  have hmk := Lib.hid (fun w => maker_at t k mp w)
  have hn4 := hm.1.2.1
  have hg := Lib.hid (fun w => gap_any m.n s a l x y (.slice (some P) m.n c) (.slice (some Q) m.n d) h0 (by omega) (by omega) (by omega) w)
  have hk := msk_le s a l size (wdn t k) hs hw.1 hn2
  have hre := fun (A0 A1 : Option Addr) (c0 c1 : Nat) (w : World) => renewed_any m.n s a l 0 0 size A0 A1 m.n m.n c0 c1 hs w
  have hma := msa_is s a l size hs
  rw [← hma] at hre
  have hg2 := fun (A B : Value) (w : World) => gap_any m.n s (msa s a l size) l a (msa s a l size) A B hs.2.1 (by have := hs.2.2; omega) (by have := hs.2.1; omega) (by have := hs.2.2; omega) w
  rw [show msa s a l size - a = msk s a l size from by omega] at hg2
  have hrt := fun (W : World) (h : Up w W) => retire_any m P Q c d s a l x y W (hm.up h) hs.1 h0 h3 (by omega)
  have hKn := rtm_n m s x y
  have hem := fun w => empty_any x y w
  rw [show tsame x y 0 0 = false from by unfold tsame; simp; omega] at hem
  have hem := Lib.hid hem
  generalize m.rtm s x y = K at hrt hKn ⊢
  have hre := Lib.hid hre
  have hg2 := Lib.hid hg2
  have hrt := Lib.hid hrt
  generalize msk s a l size = z at hk hg2 hma
  generalize msa s a l size = b at hre hg2 hma
  generalize wdn t k = n at hwd hw hn hn2 hn3 hk
  have hle : decide (n ≤ y - x) = false := decide_eq_false (by omega)
  generalize y - x = q at hg hle
  have b0 := hw.1
  have b1 := hw.2
  have hd : decide (size < 2 * n) = false := decide_eq_false (by omega)
  have hz : decide (z < n) = true := decide_eq_true (hk.2.2 hn3)
  have HM := Lib.hid hm
  have ht' : (t == 255) = false := beq_eq_false_iff_ne.mpr ht
  clear hm hmp hh hs hn hn2 hn3 hw hn4 ht hk hma h2 h0 h1 h3 hne
  have HKn := Lib.hid hKn
  go_enter Tryz.func103, Tryz.ntmps103
  go_wp2
  refine wp_scope_jumps 0 (fun _ _ => False) (fun a' _ => 0) rfl ?_ (fun _ _ hf => hf.elim)
  go_wp2_with (fail)
  refine calls_at (fun V hV => ?_)
  obtain ⟨U0, X0, H0, R0⟩ := three8 hV
  clear hV
  refine (hr.out _).mono ?_
  rintro e w1 ⟨rfl, k1⟩
  have X1 := X0.up k1
  have H1 := H0.up k1
  have R1 := R0.up k1
  have U1 := U0.trans k1
  clear k1 X0 H0 R0 U0
  have H1c := H1.cell
  go_wp2_with (fail)
  have V0 := (Up.refl w1).drew
  go_region_held3 (fun w' => ∀ i, w'.cell? ⟨w.heap.size + 1, i, none⟩ = (hcs t k mp)[i]?)
    (with_reducible exact fun i => (Blk.up H1 (by assumption)).cell i)
    (first
      | (go_at_call 129; ((with_reducible refine (hwd.out w1.drew).mono ?_); rintro e wa ⟨rfl, ha⟩; have UA := Up.trans V0 ha))
      | (go_at_call 130; ((with_reducible refine (hmk.out wa).mono ?_); rintro e wz ⟨g, rfl, hz, hgb, GZ⟩; have UZ := Up.trans UA hz; have hgz := Nat.le_trans UA.le hgb)))
  rename_i hHeld
  clear hHeld hwd hmk hr
  have hgw : w.heap.size + 1 + 1 < g := Nat.lt_of_lt_of_le R1.lt hgz
  have X2 := X1.up UZ
  have R2 := R1.up UZ
  have U2 := U1.trans UZ
  clear V0 X1 R1 U1 H1 H1c UZ hgz hgb ha UA hz
  go_wp2_with (fail)
  go_step3
  have X2c := X2.cell
  go_wp2_with (fail)
  refine (hg.out _).mono ?_
  rintro e w3 ⟨rfl, k3⟩
  have X3 := X2.up k3
  have R3 := R2.up k3
  have U3 := U2.trans k3
  have GZ := GZ.up k3
  clear k3 X2 X2c R2 U2
  have X3c := X3.cell
  go_wp2_with (fail)
  refine (hem.out _).mono ?_
  rintro e w4 ⟨rfl, k4⟩
  have X4 := X3.up k4
  have R4 := R3.up k4
  have U4 := U3.trans k4
  have GZ := GZ.up k4
  clear k4 X3 X3c R3 U3
  have X4c := X4.cell
  go_wp2_with (fail)
  refine (hrt.out _ U4).mono ?_
  rintro e w5 ⟨P', Q', c', d', rfl, sz, k5⟩
  have X5 := X4.up k5
  have R5 := R4.up k5
  have U5 := U4.trans k5
  have GZ := GZ.up k5
  clear k5 X4 X4c R4 U4
  have X5c := X5.cell
  have X5f := X5.frozen
  have X5l := X5.lt
  go_wp2_with (fail)
  refine calls_at (fun V6 hV6 => ?_)
  have X6 : Blk V6 w.heap.size 150 (roc m.n (.slice (some P') m.n c') (.slice (some Q') m.n d') s a l 0 0) := by rw [hV6]; exact X5.set8 _ _ _ _ _ _ _ _
  have k6 : Kp [w.heap.size] w5 V6 := by
    rw [hV6]
    exact (Kp.set_ (Kp.set_ (Kp.set_ (Kp.set_ (Kp.set_ (Kp.set_ (Kp.set_ (Kp.set_ (Kp.refl _ _) (by simp) _) (by simp) _) (by simp) _) (by simp) _) (by simp) _) (by simp) _) (by simp) _) (by simp) _)
  have R6 := R5.kp k6 (by simp <;> omega)
  have GZ := GZ.kp k6 (by simp <;> omega)
  have S6 := sz.kp k6 (Tiny.one X5 (by simp))
  have U6 := U5.kp k6 (by simp)
  clear hV6 k6 X5 X5c X5f X5l R5 U5 sz
  refine (hre.out (some P') (some Q') c' d' _).mono ?_
  rintro e w7 ⟨rfl, k7⟩
  have X7 := X6.up k7
  have R7 := R6.up k7
  have U7 := U6.trans k7
  have S7 := S6.up k7
  have GZ := GZ.up k7
  clear k7 X6 R6 U6 S6
  have X7c := X7.cell
  go_wp2_with (fail)
  refine calls_at (fun V8 hV8 => ?_)
  have k8 : Up w7 V8 := by rw [hV8]; exact (Up.refl _).alloc _
  have N8 : Blk V8 w7.heap.size 150 (roc m.n (.slice (some P') m.n c') (.slice (some Q') m.n d') s b l a b) := by rw [hV8]; exact Blk.new _ _ _
  clear hV8
  refine (hg2.out _ _ _).mono ?_
  rintro e w9 ⟨rfl, k9⟩
  have N9 := N8.up k9
  replace k9 := k8.trans k9
  have X9 := X7.up k9
  have R9 := R7.up k9
  have U9 := U7.trans k9
  have S9 := S7.up k9
  have GZ := GZ.up k9
  have hN9 : w.heap.size < w7.heap.size := X7.lt
  clear k9 k8 X7 R7 U7 S7 X7c N8
  have N9c := N9.cell
  have N9l := N9.lt
  have X9c := X9.cell
  have X9f := X9.frozen
  have X9l := X9.lt
  have R9c := R9.cell
  have R9f := R9.frozen
  have R9l := R9.lt
  go_wp2_with (fail)
  (try simp only [Exit.inBlock, Exit.then])
  (try simp only [Exit.jump])
  refine bodyPost_ret (ret_room3 rfl _ _ _ _ _ _ _ _ _ _ _ _ _ rfl (R9.set8 _ _ _ _ _ _ _ _) rfl rfl) rfl ?_
  refine ⟨P', Q', c', d', by rw [HKn.out]; rfl, S9.kp (S := [w.heap.size, w.heap.size + 1 + 1]) ?_ (Tiny.two X9 R9 (by simp) (by simp)), U9.kp (S := [w.heap.size, w.heap.size + 1 + 1]) ?_ (by simp <;> omega)⟩
  all_goals
    exact (Kp.set_ (Kp.set_ (Kp.set_ (Kp.set_ (Kp.set_ (Kp.set_ (Kp.set_ (Kp.set_ (Kp.refl _ _) (by simp) _) (by simp) _) (by simp) _) (by simp) _) (by simp) _) (by simp) _) (by simp) _) (by simp) _)

end Go.Proofs.YtddoljfkbkbfjaaGreat
/-! Of stage 8 -/
namespace Go.Proofs.YtddoljfkbkbfjaaGreat
open Go.ChangeShapes Go.WideShapes Go.ChangeAt Go.RowKit
set_option linter.unusedVariables false
set_option linter.unusedSimpArgs false

set_option maxRecDepth 100000 in
set_option maxHeartbeats 4000000 in
/-- The piece is filled, and a new one is taken. -/
theorem make_c (m : Me) (P Q : Addr) (c d : Nat) (s a l x y t k mp size : Int) (w : World) (hm : Sits w m P Q c d) (hmp : 0 ≤ mp) (hh : rte t k mp = 0) (ht : t ≠ 255) (hs : rgt s a l) (h2 : l = m.n) (h0 : 0 ≤ x) (h3 : x ≤ y) (h1 : y ≤ m.n) (hne : x ≠ 0 ∨ y ≠ 0) (hn : y - x < wdn t k) (hn2 : 2 * wdn t k ≤ size) (hn3 : wdn t k ≤ l - a) :
    Calls Tryz.prog 103 #[rov m.n (.slice (some P) m.n c) (.slice (some Q) m.n d) s a l x y, hdv t k mp, .int .i64 size] w (GivesR2 w ((m.rtm s x y).putm (adr s a) t k mp) s (msa s a l size) l (a + wdn t k) (msa s a l size) (adr s a) 0) := by
  have hw := wdn_small hmp hh
  have hr := fun w => right_any t k mp w
  rw [hh] at hr
  have hr := Lib.hid hr
  have hwd := Lib.hid (fun w => words_any t k mp hmp hh w)
  have hmk := Lib.hid (fun w => maker_at t k mp w)
  have hn4 := hm.1.2.1
  have hg := Lib.hid (fun w => gap_any m.n s a l x y (.slice (some P) m.n c) (.slice (some Q) m.n d) h0 (by omega) (by omega) (by omega) w)
  have hk := msk_le s a l size (wdn t k) hs hw.1 hn2
  have hre := fun (A0 A1 : Option Addr) (c0 c1 : Nat) (w : World) => renewed_any m.n s a l 0 0 size A0 A1 m.n m.n c0 c1 hs w
  have hma := msa_is s a l size hs
  rw [← hma] at hre
  have hg2 := fun (A B : Value) (w : World) => gap_any m.n s (msa s a l size) l a (msa s a l size) A B hs.2.1 (by have := hs.2.2; omega) (by have := hs.2.1; omega) (by have := hs.2.2; omega) w
  rw [show msa s a l size - a = msk s a l size from by omega] at hg2
  have hrt := fun (W : World) (h : Up w W) => retire_any m P Q c d s a l x y W (hm.up h) hs.1 h0 h3 (by omega)
  have hKn := rtm_n m s x y
  have hem := fun w => empty_any x y w
  rw [show tsame x y 0 0 = false from by unfold tsame; simp; omega] at hem
  have hem := Lib.hid hem
  have hc := fun (P Q : Addr) (c d : Nat) (W : World) (g : Nat) (hS : Sits W (m.rtm s x y) P Q c d) (hH : Blk W g 60 (hcs t k mp)) => made_ok (m.rtm s x y) P Q c d s a (msa s a l size) t k mp g W hS hmp hh ⟨hs.1, hs.2.1, by omega, by have := hs.2.2; omega⟩ (by rw [hKn]; have := hs.2.2; omega) (by omega) hH
  have hK := put_n (m.rtm s x y) (adr s a) t k mp
  rw [hKn] at hc hK
  generalize (m.rtm s x y).putm (adr s a) t k mp = L at hc hK ⊢
  have hK := Lib.hid hK
  have hc := Lib.hid hc
  generalize adr s a = u at hc ⊢
  generalize a + wdn t k = a' at hc ⊢
  generalize m.rtm s x y = K at hrt hKn hc
  have hre := Lib.hid hre
  have hg2 := Lib.hid hg2
  have hrt := Lib.hid hrt
  generalize msk s a l size = z at hk hg2 hma
  generalize msa s a l size = b at hre hg2 hma hc ⊢
  generalize wdn t k = n at hwd hw hn hn2 hn3 hk
  have hle : decide (n ≤ y - x) = false := decide_eq_false (by omega)
  generalize y - x = q at hg hle
  have b0 := hw.1
  have b1 := hw.2
  have hd : decide (size < 2 * n) = false := decide_eq_false (by omega)
  have hz : decide (z < n) = false := decide_eq_false (by have := hk.2.1 hn3; omega)
  have hz2 : decide (n ≤ z) = true := decide_eq_true (hk.2.1 hn3)
  have HM := Lib.hid hm
  have ht' : (t == 255) = false := beq_eq_false_iff_ne.mpr ht
  clear hm hmp hh hs hn hn2 hn3 hw hn4 ht hk hma h2 h0 h1 h3 hne
  have HKn := Lib.hid hKn
  go_enter Tryz.func103, Tryz.ntmps103
  go_wp2
  refine wp_scope_jumps 0 (AtMk m K (rov m.n (.slice (some P) m.n c) (.slice (some Q) m.n d) s a l x y) (hdv t k mp) (hcs t k mp) s a l b n size w) (fun a' _ => 0) rfl ?_ ?_
  · go_wp2_with (fail)
    refine calls_at (fun V hV => ?_)
    obtain ⟨U0, X0, H0, R0⟩ := three8 hV
    clear hV
    refine (hr.out _).mono ?_
    rintro e w1 ⟨rfl, k1⟩
    have X1 := X0.up k1
    have H1 := H0.up k1
    have R1 := R0.up k1
    have U1 := U0.trans k1
    clear k1 X0 H0 R0 U0
    have H1c := H1.cell
    go_wp2_with (fail)
    have V0 := (Up.refl w1).drew
    go_region_held3 (fun w' => ∀ i, w'.cell? ⟨w.heap.size + 1, i, none⟩ = (hcs t k mp)[i]?)
      (with_reducible exact fun i => (Blk.up H1 (by assumption)).cell i)
      (first
        | (go_at_call 129; ((with_reducible refine (hwd.out w1.drew).mono ?_); rintro e wa ⟨rfl, ha⟩; have UA := Up.trans V0 ha))
        | (go_at_call 130; ((with_reducible refine (hmk.out wa).mono ?_); rintro e wz ⟨g, rfl, hz, hgb, GZ⟩; have UZ := Up.trans UA hz; have hgz := Nat.le_trans UA.le hgb)))
    rename_i hHeld
    clear hHeld hwd hmk hr
    have hgw : w.heap.size + 1 + 1 < g := Nat.lt_of_lt_of_le R1.lt hgz
    have X2 := X1.up UZ
    have R2 := R1.up UZ
    have U2 := U1.trans UZ
    clear V0 X1 R1 U1 H1 H1c UZ hgz hgb ha UA hz
    go_wp2_with (fail)
    go_step3
    have X2c := X2.cell
    go_wp2_with (fail)
    refine (hg.out _).mono ?_
    rintro e w3 ⟨rfl, k3⟩
    have X3 := X2.up k3
    have R3 := R2.up k3
    have U3 := U2.trans k3
    have GZ := GZ.up k3
    clear k3 X2 X2c R2 U2
    have X3c := X3.cell
    go_wp2_with (fail)
    refine (hem.out _).mono ?_
    rintro e w4 ⟨rfl, k4⟩
    have X4 := X3.up k4
    have R4 := R3.up k4
    have U4 := U3.trans k4
    have GZ := GZ.up k4
    clear k4 X3 X3c R3 U3
    have X4c := X4.cell
    go_wp2_with (fail)
    refine (hrt.out _ U4).mono ?_
    rintro e w5 ⟨P', Q', c', d', rfl, sz, k5⟩
    have X5 := X4.up k5
    have R5 := R4.up k5
    have U5 := U4.trans k5
    have GZ := GZ.up k5
    clear k5 X4 X4c R4 U4
    have X5c := X5.cell
    have X5f := X5.frozen
    have X5l := X5.lt
    go_wp2_with (fail)
    refine calls_at (fun V6 hV6 => ?_)
    have X6 : Blk V6 w.heap.size 150 (roc m.n (.slice (some P') m.n c') (.slice (some Q') m.n d') s a l 0 0) := by rw [hV6]; exact X5.set8 _ _ _ _ _ _ _ _
    have k6 : Kp [w.heap.size] w5 V6 := by
      rw [hV6]
      exact (Kp.set_ (Kp.set_ (Kp.set_ (Kp.set_ (Kp.set_ (Kp.set_ (Kp.set_ (Kp.set_ (Kp.refl _ _) (by simp) _) (by simp) _) (by simp) _) (by simp) _) (by simp) _) (by simp) _) (by simp) _) (by simp) _)
    have R6 := R5.kp k6 (by simp <;> omega)
    have GZ := GZ.kp k6 (by simp <;> omega)
    have S6 := sz.kp k6 (Tiny.one X5 (by simp))
    have U6 := U5.kp k6 (by simp)
    clear hV6 k6 X5 X5c X5f X5l R5 U5 sz
    refine (hre.out (some P') (some Q') c' d' _).mono ?_
    rintro e w7 ⟨rfl, k7⟩
    have X7 := X6.up k7
    have R7 := R6.up k7
    have U7 := U6.trans k7
    have S7 := S6.up k7
    have GZ := GZ.up k7
    clear k7 X6 R6 U6 S6
    have X7c := X7.cell
    go_wp2_with (fail)
    refine calls_at (fun V8 hV8 => ?_)
    have k8 : Up w7 V8 := by rw [hV8]; exact (Up.refl _).alloc _
    have N8 : Blk V8 w7.heap.size 150 (roc m.n (.slice (some P') m.n c') (.slice (some Q') m.n d') s b l a b) := by rw [hV8]; exact Blk.new _ _ _
    clear hV8
    refine (hg2.out _ _ _).mono ?_
    rintro e w9 ⟨rfl, k9⟩
    have N9 := N8.up k9
    replace k9 := k8.trans k9
    have X9 := X7.up k9
    have R9 := R7.up k9
    have U9 := U7.trans k9
    have S9 := S7.up k9
    have GZ := GZ.up k9
    have hN9 : w.heap.size < w7.heap.size := X7.lt
    clear k9 k8 X7 R7 U7 S7 X7c N8
    have N9c := N9.cell
    have N9l := N9.lt
    have X9c := X9.cell
    have X9f := X9.frozen
    have X9l := X9.lt
    have R9c := R9.cell
    have R9f := R9.frozen
    have R9l := R9.lt
    go_wp2_with (fail)
    go_step3
    refine ⟨rfl, g, _, _, _, _, _, _, _, _, _, _, _, _, _, _, _, _, _, _, _, _, _, _, _, _, _, _, _, _, _, _, _, _, _, _, _, _, _, _, _, _, _, _, _, _, _, _, _, _, _, _, _, _, _, _, _, _, _, _, _, _, _, _, _, _, _, _, _, _, _, _, _, _, _, _, _, _, _, _, _, P', Q', c', d', rfl, U9.set8 (Nat.le_refl _) _ _ _ _ _ _ _ _, X9.set8 _ _ _ _ _ _ _ _, ((((((((R9.far (by simp <;> omega) _).far (by simp <;> omega) _).far (by simp <;> omega) _).far (by simp <;> omega) _).far (by simp <;> omega) _).far (by simp <;> omega) _).far (by simp <;> omega) _).far (by simp <;> omega) _), S9.far8 X9 _ _ _ _ _ _ _ _, ((((((((GZ.far (by simp <;> omega) _).far (by simp <;> omega) _).far (by simp <;> omega) _).far (by simp <;> omega) _).far (by simp <;> omega) _).far (by simp <;> omega) _).far (by simp <;> omega) _).far (by simp <;> omega) _), hgw⟩
  · rintro a_ wr ⟨g, u13, u14, u15, u16, u17, u18, u19, u20, u21, u22, u23, u24, u25, u26, u27, u28, u29, u30, u31, u32, u33, u34, u35, u36, u37, u38, u39, u40, u41, u42, u43, u44, u45, u46, u47, u48, u49, u50, u51, u52, u53, u54, u55, u56, u57, u58, u59, u60, u61, u62, u63, u64, u65, u66, u67, u68, u69, u70, u71, u72, u73, u74, u75, u76, u77, u78, u79, u80, u81, u82, u83, u84, u85, u86, u87, u88, u89, u90, u91, P1, Q1, c1, d1, rfl, U2, X2, R2, S2, GZ, hgw⟩
    have X2c := X2.cell
    go_wp2_with (fail)
    refine (hg2.out _ _ _).mono ?_
    rintro e w3 ⟨rfl, k3⟩
    have X3 := X2.up k3
    have R3 := R2.up k3
    have U3 := U2.trans k3
    have GZ := GZ.up k3
    have S3 := S2.up k3
    clear k3 X2 X2c R2 U2
    have X3c := X3.cell
    go_wp2_with (fail)
    refine (hc.out P1 Q1 c1 d1 _ g S3 GZ).mono ?_
    rintro e w4 ⟨P', Q', c', d', rfl, sz, k4⟩
    have X4 := X3.up k4
    have R4 := R3.up k4
    have U4 := U3.trans k4
    clear k4 X3 X3c R3 U3 GZ
    have X4c := X4.cell
    have X4f := X4.frozen
    have X4l := X4.lt
    have R4c := R4.cell
    have R4f := R4.frozen
    have R4l := R4.lt
    go_wp2_with (fail)
    (try simp only [Exit.inBlock, Exit.then])
    (try simp only [Exit.jump])
    refine bodyPost_ret (ret_room3 rfl _ _ _ _ _ _ _ _ _ _ _ _ _ rfl (((((R4.far (by simp <;> omega) _).far (by simp <;> omega) _).far (by simp <;> omega) _).far (by simp <;> omega) _).set8 _ _ _ _ _ _ _ _) rfl rfl) rfl ?_
    refine ⟨P', Q', c', d', by rw [hK.out]; rfl, sz.kp (S := [w.heap.size, w.heap.size + 1 + 1]) ?_ (Tiny.two X4 R4 (by simp) (by simp)), U4.kp (S := [w.heap.size, w.heap.size + 1 + 1]) ?_ (by simp <;> omega)⟩
    all_goals
      exact (Kp.set_ (Kp.set_ (Kp.set_ (Kp.set_ (Kp.set_ (Kp.set_ (Kp.set_ (Kp.set_ (Kp.set_ (Kp.set_ (Kp.set_ (Kp.set_ (Kp.refl _ _) (by simp) _) (by simp) _) (by simp) _) (by simp) _) (by simp) _) (by simp) _) (by simp) _) (by simp) _) (by simp) _) (by simp) _) (by simp) _) (by simp) _)

end Go.Proofs.YtddoljfkbkbfjaaGreat
/-! Of stage 8 -/
namespace Go.Proofs.YtddoljfkbkbfjaaGreat
open Go.Joins Go.ChangeShapes Go.WideShapes Go.ChangeAt Go.RowKit Go.Deep
set_option linter.unusedVariables false
set_option linter.unusedSimpArgs false

/-- A right piece. -/
def pcb (a x y : Int) : Bool := decide ((x = 0 ∧ y = 0) ∨ (0 ≤ x ∧ x ≤ y ∧ y ≤ a))
/-- Is a room right? -/
def rob (N : Int) (n0 n1 : Nat) (s a l x y : Int) : Bool := rt N n0 n1 && (rgb s a l && (decide (l = N) && pcb a x y))

/-- Which rooms are asked about. -/
def fewr (N : Int) (n0 n1 : Nat) (s a l x y : Int) : Bool := rob N n0 n1 s a l x y && decide (N ≤ 200)

end Go.Proofs.YtddoljfkbkbfjaaGreat
