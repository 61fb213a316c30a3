/- What is put (object.blank, Put, Fill): contracts of the closures and of the calls. -/
import Derived.Test.YtjolikgficknnaaOb5
namespace Go.Proofs.Ytjolikgficknnaa
open Go.ChangeShapes Go.WideShapes Go.ChangeAt Go.RowKit
set_option linter.unusedVariables false
set_option linter.unusedSimpArgs false

/-- The words behind the first one, so many, are 0. -/
def Me.zs (m : Me) (a : Int) : Nat → Me
  | 0 => m
  | k + 1 => (m.zs a k).st (a + (k + 1)) 0
theorem Me.zs_n (m : Me) (a : Int) (k : Nat) : (m.zs a k).n = m.n := by
  induction k with
  | zero => rfl
  | succ k ih => exact (Me.st_n _ _ _).trans ih
theorem Me.wf.zs {m : Me} (h : m.wf) (a : Int) (k : Nat) : (m.zs a k).wf := by
  induction k with
  | zero => exact h
  | succ k ih => exact ih.st u64_0 _
theorem set_same {l : List Int} {k : Nat} {v : Int} (hk : k < l.length) (h : l.getD k 0 = v) : l.set k v = l := by
  subst h
  simp [List.getD, List.getElem?_eq_getElem hk]
theorem Me.put_sp (m : Me) {s : Int} : m.put s (m.sp s) = m := by
  unfold Me.put Me.sp
  split <;> rfl
theorem st_same {m : Me} (hm : m.ok) {a v : Int} (ht : m.there a) (h : m.ld a = v) : m.st a v = m := by
  have h0 := ht.2
  have h1 := whp_nn a
  rw [show m.st a v = _ from if_pos ht, set_same (by rw [Me.len_sp hm]; omega) ((show m.ld a = _ from if_pos ht) ▸ h), Me.put_sp]

/-- Where the memory of a loop's round lies. -/
def BlkRel (m : Me) (a : Int) (L B : Nat) (w0 : World) (i : Value) (wr : World) : Prop := ∃ k : Nat, k ≤ L ∧ i = .int .i64 ((k + 1 : Nat) : Int) ∧ Kp [B] w0 wr ∧ ∃ P Q c d, Box wr B (m.zs a k) P Q c d

set_option maxHeartbeats 1000000 in
theorem blank_f (m : Me) (a l mp : Int) (P Q : Addr) (c d : Nat) (w : World) (hm : Sits w m P Q c d) :
    Calls Try.prog 44 #[.agg #[.int .i64 m.n, .slice (some P) m.n c, .slice (some Q) m.n d], .int .u64 a, hdv 255 l mp] w (Gives1 w m (.int .i64 0)) := by
  have HM := Lib.hid hm
  clear hm
  go_enter Try.func44, Try.ntmps44
  go_wp2
  refine bodyPost_ret (v := .tuple #[.agg #[.int .i64 m.n, .slice (some P) m.n c, .slice (some Q) m.n d], .int .i64 0]) (by simp [results, Try.results44, go_sem]) rfl ⟨P, Q, c, d, rfl, ?_, ?_⟩
  · exact HM.out.up ((((Up.refl _).alloc _).alloc _).alloc _)
  · exact (((Up.refl _).alloc _).alloc _).alloc _

set_option maxHeartbeats 4000000 in
theorem blank_o (m : Me) (a t l mp : Int) (P Q : Addr) (c d : Nat) (w : World) (hm : Sits w m P Q c d) (ha : U64 a) (hmp : 0 ≤ mp) (hh : rte t l mp = 0) (ht : t ≠ 255) (hi : m.inn a (wdn t l)) :
    Calls Try.prog 44 #[.agg #[.int .i64 m.n, .slice (some P) m.n c, .slice (some Q) m.n d], .int .u64 a, hdv t l mp] w (Gives1 w (m.zs a (l + 1).toNat) (.int .i64 0)) := by
  have HM := Lib.hid hm
  have hw := Lib.hid (fun w => words_any t l mp hmp hh w)
  obtain ⟨L, hL, hL2, hL3⟩ : ∃ L : Nat, wdn t l = L + 1 ∧ (l + 1).toNat = L ∧ L ≤ 17 := by
    have h := rte_small hmp hh
    refine ⟨(l + 1).toNat, ?_, rfl, by omega⟩
    rw [show wdn t l = l + 2 from if_neg ht]
    omega
  rw [hL] at hw hi
  rw [hL2]
  have hoff := Lib.hid (fun (k : Nat) (hk : k < L) => (inn_off (j := (k + 1 : Int)) hm.1.2.1 hi (by omega) (by omega)).2.2)
  have hs := Lib.hid (fun (w : World) (g k : Nat) (hk : k < L) (hb : Blk w g 3 #[.int .i64 (k + 1)]) => sum_1 a (k + 1) g w ha.1 (by omega) (hoff.out k hk).2.2 hb)
  have hb : (t == 255) = false := beq_eq_false_iff_ne.mpr ht
  clear hm ha hmp hh ht hi hL hL2
  go_enter Try.func44, Try.ntmps44
  go_wp2_with (fail)
  generalize hW0 : ((w.alloc (.cells #[.int .i64 m.n, .slice (some P) m.n c, .slice (some Q) m.n d] 25)).alloc (.cells #[.int .i64 t, .int .i64 l, .int .u64 mp] 39)).alloc (.cells #[.int .i64 0, .slice none 0 0, .slice none 0 0] 25) = W0
  have M0 : Blk W0 w.heap.size 25 #[.int .i64 m.n, .slice (some P) m.n c, .slice (some Q) m.n d] := by rw [← hW0]; exact (((Blk.new' _ (by simp) _ _).alloc _).alloc _)
  have H0 : Blk W0 (w.heap.size + 1) 39 #[.int .i64 t, .int .i64 l, .int .u64 mp] := by rw [← hW0]; exact (Blk.new' _ (by simp) _ _).alloc _
  have R0 : Blk W0 (w.heap.size + 1 + 1) 25 #[.int .i64 0, .slice none 0 0, .slice none 0 0] := by rw [← hW0]; exact Blk.new' _ (by simp) _ _
  have U0 : Up w W0 := by rw [← hW0]; exact ((((Up.refl w).alloc _).alloc _).alloc _)
  clear hW0
  go_loopw [8] (BlkRel m a L w.heap.size W0) (fun i _ => L + 1 - (intOf i).toNat)
  case atStart => exact ⟨0, Nat.zero_le _, rfl, Kp.refl _ _, P, Q, c, d, M0, HM.out.up U0⟩
  case round =>
    obtain ⟨k, hk, rfl, hK, P1, Q1, c1, d1, hM⟩ := hrel
    have U1 := U0.kp hK (by simp)
    have M1 := hM.1
    have S1 := hM.2
    have H1 := H0.kp hK (by simp)
    have R1 := R0.kp hK (by simp <;> omega)
    have H1c := H1.cell
    have R1c := R1.cell
    have R1f := R1.frozen
    have R1l := R1.lt
    have M1c := M1.cell
    have M1f := M1.frozen
    have M1l := M1.lt
    by_cases hlt : k < L
    · obtain ⟨ht, b0, b1⟩ := hoff.out k hlt
      obtain ⟨N, hNe⟩ : ∃ N, m.zs a k = N := ⟨_, rfl⟩
      have hNn : N.n = m.n := by rw [← hNe]; exact Me.zs_n m a k
      rw [hNe] at M1 S1 M1c
      have htN : N.there (a + (k + 1)) := (there_n hNn _).2 ht
      by_cases hv : N.ld (a + (k + 1)) = 0
      · have hl := Lib.hid (fun (W : World) (hS : Sits W N P1 Q1 c1 d1) => show Calls Try.prog 54 #[.agg #[.int .i64 N.n, .slice (some P1) N.n c1, .slice (some Q1) N.n d1], .int .u64 (a + (k + 1))] W fun e w' => e = .returned (.tuple #[.int .u64 0, .int .i64 0]) ∧ Up W w' from by
          have h := load_any N (a + (k + 1)) P1 Q1 c1 d1 W hS ⟨b0, b1⟩
          rw [hv, show N.lde (a + (k + 1)) = 0 from if_pos htN] at h
          exact h)
        have hN := Lib.hid (show m.zs a (k + 1) = N from by
          show (m.zs a k).st (a + (k + 1)) 0 = N
          rw [hNe, st_same S1.1 htN hv])
        clear hM hNe hNn htN hv ht b0 b1
        go_wp2_with (fail)
        refine (hw.out _).mono ?_
        rintro e w2 ⟨rfl, h2⟩
        have M2 := M1.up h2
        have R2 := R1.up h2
        have S2 := S1.up h2
        have U2 := U1.trans h2
        have K2 := hK.up h2
        clear h2 M1c M1f M1l R1c R1f R1l H1c H1 M1 R1 S1 U1 hK
        have M2c := M2.cell
        have M2f := M2.frozen
        have M2l := M2.lt
        have R2c := R2.cell
        have R2f := R2.frozen
        have R2l := R2.lt
        go_wp2_with (fail)
        refine (hs.out _ _ k hlt (Blk.new w2 3 #[.int .i64 (k + 1)])).mono ?_
        rintro e w3 ⟨rfl, rfl⟩
        go_wp2_with (fail)
        refine (hl.out _ (S2.up ((Up.refl _).alloc _))).mono ?_
        rintro e w4 ⟨rfl, h4⟩
        have u4 := ((Up.refl w2).alloc (.cells #[.int .i64 (k + 1)] 3)).trans h4
        have M4 := M2.up u4
        have R4 := R2.up u4
        have S4 := S2.up u4
        have U4 := U2.trans u4
        have K4 := K2.up u4
        clear h4 u4 M2c M2f M2l R2c R2f R2l M2 R2 S2 U2 K2
        have M4c := M4.cell
        have M4f := M4.frozen
        have M4l := M4.lt
        have R4c := R4.cell
        have R4f := R4.frozen
        have R4l := R4.lt
        go_wp2
        refine ⟨⟨k + 1, hlt, by go_num, K4, P1, Q1, c1, d1, ?_⟩, by simp [intOf]; omega⟩
        rw [hN.out]
        exact ⟨M4, S4⟩
      · have hl := Lib.hid (fun (W : World) (hS : Sits W N P1 Q1 c1 d1) => show Calls Try.prog 54 #[.agg #[.int .i64 N.n, .slice (some P1) N.n c1, .slice (some Q1) N.n d1], .int .u64 (a + (k + 1))] W fun e w' => e = .returned (.tuple #[.int .u64 (N.ld (a + (k + 1))), .int .i64 0]) ∧ Up W w' from by
          have h := load_any N (a + (k + 1)) P1 Q1 c1 d1 W hS ⟨b0, b1⟩
          rw [show N.lde (a + (k + 1)) = 0 from if_pos htN] at h
          exact h)
        have hst := Lib.hid (fun (W : World) (hS : Sits W N P1 Q1 c1 d1) => show Calls Try.prog 42 #[.agg #[.int .i64 N.n, .slice (some P1) N.n c1, .slice (some Q1) N.n d1], .int .u64 (a + (k + 1)), .int .u64 0] W (Gives1 W (N.st (a + (k + 1)) 0) (.int .i64 0)) from by
          have h := store_any N (a + (k + 1)) 0 P1 Q1 c1 d1 W hS ⟨b0, b1⟩
          rw [show N.lde (a + (k + 1)) = 0 from if_pos htN] at h
          exact h)
        have hvb : (N.ld (a + (k + 1)) != 0) = true := bne_iff_ne.mpr hv
        obtain ⟨N', hN'⟩ : ∃ N', N.st (a + (k + 1)) 0 = N' := ⟨_, rfl⟩
        have hN := Lib.hid (show m.zs a (k + 1) = N' from by
          show (m.zs a k).st (a + (k + 1)) 0 = N'
          rw [hNe, hN'])
        rw [hN'] at hst
        generalize N.ld (a + (k + 1)) = v at hl hvb
        clear hM hNe hNn htN hv ht b0 b1 hN'
        go_wp2_with (fail)
        refine (hw.out _).mono ?_
        rintro e w2 ⟨rfl, h2⟩
        have M2 := M1.up h2
        have R2 := R1.up h2
        have S2 := S1.up h2
        have U2 := U1.trans h2
        have K2 := hK.up h2
        clear h2 M1c M1f M1l R1c R1f R1l H1c H1 M1 R1 S1 U1 hK
        have M2c := M2.cell
        have M2f := M2.frozen
        have M2l := M2.lt
        have R2c := R2.cell
        have R2f := R2.frozen
        have R2l := R2.lt
        go_wp2_with (fail)
        refine (hs.out _ _ k hlt (Blk.new w2 3 #[.int .i64 (k + 1)])).mono ?_
        rintro e w3 ⟨rfl, rfl⟩
        go_wp2_with (fail)
        refine (hl.out _ (S2.up ((Up.refl _).alloc _))).mono ?_
        rintro e w4 ⟨rfl, h4⟩
        have u4 := ((Up.refl w2).alloc (.cells #[.int .i64 (k + 1)] 3)).trans h4
        have M4 := M2.up u4
        have R4 := R2.up u4
        have S4 := S2.up u4
        have U4 := U2.trans u4
        have K4 := K2.up u4
        clear h4 u4 M2c M2f M2l R2c R2f R2l M2 R2 S2 U2 K2
        have M4c := M4.cell
        have M4f := M4.frozen
        have M4l := M4.lt
        have R4c := R4.cell
        have R4f := R4.frozen
        have R4l := R4.lt
        go_wp2_with (fail)
        refine (hst.out _ S4).mono ?_
        rintro e w5 ⟨P5, Q5, c5, d5, rfl, S5, h5⟩
        have M5 := M4.up h5
        have R5 := R4.up h5
        have U5 := U4.trans h5
        have K5 := K4.up h5
        clear h5 M4c M4f M4l R4c R4f R4l M4 R4 S4 U4 K4
        have M5c := M5.cell
        have M5f := M5.frozen
        have M5l := M5.lt
        have R5c := R5.cell
        have R5f := R5.frozen
        have R5l := R5.lt
        go_wp2
        refine ⟨⟨k + 1, hlt, by go_num, K5.set3 (by simp) _ _ _, P5, Q5, c5, d5, ?_⟩, by simp [intOf]; omega⟩
        rw [hN.out]
        exact ⟨M5.set3 _ _ _, S5.far3 M5 _ _ _⟩
    · obtain rfl : k = L := by omega
      go_wp2_with (fail)
      refine (hw.out _).mono ?_
      rintro e w2 ⟨rfl, h2⟩
      have M2 := M1.up h2
      have R2 := R1.up h2
      have S2 := S1.up h2
      have U2 := U1.trans h2
      clear h2 M1c M1f M1l R1c R1f R1l
      have M2c := M2.cell
      have M2f := M2.frozen
      have M2l := M2.lt
      have R2c := R2.cell
      have R2f := R2.frozen
      have R2l := R2.lt
      go_wp2
      refine bodyPost_ret (v := .tuple #[.agg #[.int .i64 (m.zs a k).n, .slice (some P1) (m.zs a k).n c1, .slice (some Q1) (m.zs a k).n d1], .int .i64 0]) (by simp [results, Try.results44, go_sem, R2c, R2l]) rfl ⟨P1, Q1, c1, d1, rfl, S2.far3 R2 _ _ _, U2.set3 (by omega) _ _ _⟩

end Go.Proofs.Ytjolikgficknnaa
