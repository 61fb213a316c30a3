/- What is put, and filled (object.Put, Fill): contracts of the closures and of the calls. -/
import Derived.Test.YtjolikgficknnaaOb6
namespace Go.Proofs.Ytjolikgficknnaa
open Go.ChangeShapes Go.WideShapes Go.ChangeAt Go.RowKit
set_option linter.unusedVariables false
set_option linter.unusedSimpArgs false

/-- All words but the first one are 0, unless it is a filler. -/
def Me.blk (m : Me) (a t l : Int) : Me := if t = 255 then m else m.zs a (l + 1).toNat
theorem blank_any (m : Me) (a t l mp : Int) (P Q : Addr) (c d : Nat) (w : World) (hm : Sits w m P Q c d) (ha : U64 a) (hmp : 0 ≤ mp) (hh : rte t l mp = 0) (hi : m.inn a (wdn t l)) :
    Calls Try.prog 44 #[.agg #[.int .i64 m.n, .slice (some P) m.n c, .slice (some Q) m.n d], .int .u64 a, hdv t l mp] w (Gives1 w (m.blk a t l) (.int .i64 0)) := by
  by_cases ht : t = 255
  · rw [show m.blk a t l = m from if_pos ht]
    subst ht
    exact blank_f m a l mp P Q c d w hm
  · rw [show m.blk a t l = _ from if_neg ht]
    exact blank_o m a t l mp P Q c d w hm ha hmp hh ht hi
/-- What is put, and why not. -/
def Me.pok (m : Me) (a t l mp : Int) : Prop := rte t l mp = 0 ∧ m.inn a (wdn t l)
instance decPok (m : Me) (a t l mp : Int) : Decidable (m.pok a t l mp) := by unfold Me.pok; infer_instance
def Me.pute (m : Me) (a t l mp : Int) : Int := if rte t l mp = 0 then unl (decide (m.inn a (wdn t l))) 2 else rte t l mp
theorem pute_0 {m : Me} {a t l mp : Int} : m.pute a t l mp = 0 ↔ m.pok a t l mp := by
  unfold Me.pute Me.pok
  by_cases h : rte t l mp = 0
  · rw [if_pos h]
    by_cases k : m.inn a (wdn t l) <;> simp [k, h, unl]
  · rw [if_neg h]
    exact ⟨fun q => absurd q h, fun q => absurd q.1 h⟩
def Me.putm (m : Me) (a t l mp : Int) : Me := if m.pok a t l mp then (m.st a (wrd t l mp)).blk a t l else m
theorem pok_there {m : Me} {a t l mp : Int} (hmp : 0 ≤ mp) (h : m.pok a t l mp) : m.there a := ⟨h.2.1, by have := h.2.2; have := (wdn_small hmp h.1).1; omega⟩

set_option maxHeartbeats 1000000 in
theorem put_c1 (t l mp x : Int) (Bh Bw : Nat) (w : World) (hmp : 0 ≤ mp) (hH : Blk w Bh 39 (hcs t l mp)) (hW : Blk w Bw 37 #[.int .u64 x]) :
    Calls Try.prog 37 #[bx Bh, bx Bw] w (CellPost Bw 37 #[.int .u64 (wov t l mp)] (rte t l mp) w) := by
  have hl := Lib.hid (word_any t l mp hmp w)
  have R0 := (hH).cell
  go_enter Try.func37, Try.ntmps37
  go_wp2_with (fail)
  refine hl.out.mono ?_
  rintro e w1 ⟨rfl, h1⟩
  have W1 := hW.up h1
  have K1 := Kp.of_up (S := [Bw]) h1
  have W1c := W1.cell
  have W1f := W1.frozen
  have W1l := W1.lt
  clear h1 hW
  go_wp2
  go_ret
  exact ⟨rfl, K1.set_ (by simp) _, W1.set_ 0 _⟩

set_option maxHeartbeats 1000000 in
theorem put_c2 (m : Me) (a t l mp : Int) (P Q : Addr) (c d Bm Ba Bh : Nat) (w : World) (ha : U64 a) (hmp : 0 ≤ mp) (hh : rte t l mp = 0) (hM : Box w Bm m P Q c d) (hA : Blk w Ba 37 #[.int .u64 a]) (hH : Blk w Bh 39 (hcs t l mp)) :
    Calls Try.prog 39 #[bx Bm, bx Ba, bx Bh] w (fun e w' => e = .returned (.int .i64 (unl (decide (m.inn a (wdn t l))) 2)) ∧ Up w w') := by
  have hl := Lib.hid (there_any m a t l mp P Q c d w hM.2.1.2.1 ha hmp hh)
  have R0 := (hM.1).cell
  have R1 := (hA).cell
  have R2 := (hH).cell
  go_enter Try.func39, Try.ntmps39
  go_wp2_with (fail)
  refine hl.out.mono ?_
  rintro e w1 ⟨rfl, h1⟩
  go_wp2
  go_ret
  exact ⟨rfl, h1⟩

set_option maxHeartbeats 1000000 in
theorem put_c3 (m : Me) (a v : Int) (x0 x1 x2 : Value) (P Q : Addr) (c d Bm Ba Bw Bo : Nat) (w : World) (ha : U64 a) (hM : Box w Bm m P Q c d) (hA : Blk w Ba 37 #[.int .u64 a]) (hW : Blk w Bw 37 #[.int .u64 v]) (hO : Blk w Bo 25 #[x0, x1, x2]) :
    Calls Try.prog 41 #[bx Bm, bx Ba, bx Bw, bx Bo] w (OutPost Bo (m.st a v) (m.lde a) w) := by
  have hl := Lib.hid (store_any m a v P Q c d w hM.2 ha)
  have R0 := (hM.1).cell
  have R1 := (hA).cell
  have R2 := (hW).cell
  generalize m.st a v = K at hl ⊢
  go_enter Try.func41, Try.ntmps41
  go_wp2_with (fail)
  refine hl.out.mono ?_
  rintro e w1 ⟨P', Q', c', d', rfl, s1, h1⟩
  have W1 := hO.up h1
  have K1 := Kp.of_up (S := [Bo]) h1
  have W1c := W1.cell
  have W1f := W1.frozen
  have W1l := W1.lt
  clear h1 hO
  go_wp2
  go_ret
  exact ⟨rfl, K1.set3 (by simp) _ _ _, P', Q', c', d', W1.set3 _ _ _, s1.far3 W1 _ _ _⟩

set_option maxHeartbeats 1000000 in
theorem put_c4 (m : Me) (a t l mp : Int) (P Q : Addr) (c d Bo Ba Bh : Nat) (w : World) (ha : U64 a) (hmp : 0 ≤ mp) (hh : rte t l mp = 0) (hi : m.inn a (wdn t l)) (hM : Box w Bo m P Q c d) (hA : Blk w Ba 37 #[.int .u64 a]) (hH : Blk w Bh 39 (hcs t l mp)) :
    Calls Try.prog 43 #[bx Bo, bx Ba, bx Bh] w (OutPost Bo (m.blk a t l) 0 w) := by
  have hO := hM.1
  have hl := Lib.hid (blank_any m a t l mp P Q c d w hM.2 ha hmp hh hi)
  have R0 := (hM.1).cell
  have R1 := (hA).cell
  have R2 := (hH).cell
  generalize m.blk a t l = K at hl ⊢
  go_enter Try.func43, Try.ntmps43
  go_wp2_with (fail)
  refine hl.out.mono ?_
  rintro e w1 ⟨P', Q', c', d', rfl, s1, h1⟩
  have W1 := hO.up h1
  have K1 := Kp.of_up (S := [Bo]) h1
  have W1c := W1.cell
  have W1f := W1.frozen
  have W1l := W1.lt
  clear h1 hO
  go_wp2
  go_ret
  exact ⟨rfl, K1.set3 (by simp) _ _ _, P', Q', c', d', W1.set3 _ _ _, s1.far3 W1 _ _ _⟩

theorem inn_n {m m' : Me} (h : m'.n = m.n) (a k : Int) : m'.inn a k ↔ m.inn a k := by unfold Me.inn; rw [h]
/-- What the row of Put comes to. -/
def PutPhi (m : Me) (a t l mp : Int) (Bo : Nat) (x : Int) (w' : World) : Prop := x = m.pute a t l mp ∧ (x = 0 → ∃ P Q c d, Box w' Bo (m.putm a t l mp) P Q c d)
theorem put_run (m : Me) (a t l mp : Int) (P Q : Addr) (c d Bm Ba Bh Bw Bo : Nat) (w : World) (ha : U64 a) (hmp : 0 ≤ mp) (h1 : Bm < Ba) (h2 : Ba < Bh) (h3 : Bh < Bw) (h4 : Bw < Bo)
    (hM : Box w Bm m P Q c d) (hA : Blk w Ba 37 #[.int .u64 a]) (hH : Blk w Bh 39 (hcs t l mp)) (hW : Blk w Bw 37 #[.int .u64 0]) (hO : Box w Bo m P Q c d) :
    Run [Bw, Bo] (PutPhi m a t l mp Bo) [(37, #[bx Bh, bx Bw]), (39, #[bx Bm, bx Ba, bx Bh]), (41, #[bx Bm, bx Ba, bx Bw, bx Bo]), (43, #[bx Bo, bx Ba, bx Bh])] w := by
  refine ⟨Try.call37, fun w0 u0 => ?_⟩
  refine (put_c1 t l mp 0 Bh Bw w0 hmp (hH.up u0) (hW.up u0)).mono ?_
  rintro e w1 ⟨rfl, k1, W1⟩
  have T1 := Tiny.one (hW.up u0)
  have M1 := (hM.up u0).kp k1 (by simp; omega) T1
  have A1 := (hA.up u0).kp k1 (by simp; omega)
  have H1 := (hH.up u0).kp k1 (by simp; omega)
  have O1 := (hO.up u0).kp k1 (by simp; omega) T1
  refine ⟨_, rfl, k1.mono (by simp), fun hx w2 u2 => ⟨(if_neg hx).symm, fun q => absurd q hx⟩, fun hx => ?_⟩
  rw [show wov t l mp = _ from if_pos hx] at W1
  refine ⟨Try.call39, fun w2 u2 => ?_⟩
  refine (put_c2 m a t l mp P Q c d Bm Ba Bh w2 ha hmp hx (M1.up u2) (A1.up u2) (H1.up u2)).mono ?_
  rintro e w3 ⟨rfl, u3⟩
  refine ⟨_, rfl, .of_up u3, fun hy w4 u4 => ⟨(if_pos hx).symm, fun q => absurd q hy⟩, fun hy => ?_⟩
  have hi : m.inn a (wdn t l) := by
    by_cases hi : m.inn a (wdn t l)
    · exact hi
    · rw [decide_eq_false hi] at hy; cases hy
  have hok : m.pok a t l mp := ⟨hx, hi⟩
  have ht := pok_there hmp hok
  refine ⟨Try.call41, fun w4 u4 => ?_⟩
  refine (put_c3 m a (wrd t l mp) _ _ _ P Q c d Bm Ba Bw Bo w4 ha (((M1.up u2).up u3).up u4) (((A1.up u2).up u3).up u4) (((W1.up u2).up u3).up u4) (((O1.1.up u2).up u3).up u4)).mono ?_
  rintro e w5 ⟨rfl, k5, P5, Q5, c5, d5, O5⟩
  have A5 := (((A1.up u2).up u3).up u4).kp k5 (by simp; omega)
  have H5 := (((H1.up u2).up u3).up u4).kp k5 (by simp; omega)
  have hz : m.lde a = 0 := if_pos ht
  refine ⟨_, rfl, k5.mono (by simp), fun hq => absurd hz hq, fun _ => ?_⟩
  refine ⟨Try.call43, fun w6 u6 => ?_⟩
  refine (put_c4 (m.st a (wrd t l mp)) a t l mp P5 Q5 c5 d5 Bo Ba Bh w6 ha hmp hx ((inn_n (Me.st_n _ _ _) a _).2 hi) (O5.up u6) (A5.up u6) (H5.up u6)).mono ?_
  rintro e w7 ⟨rfl, k7, P7, Q7, c7, d7, O7⟩
  refine ⟨_, rfl, k7.mono (by simp), fun hq => absurd rfl hq, fun _ w8 u8 => ⟨(pute_0.2 hok).symm, fun _ => ⟨P7, Q7, c7, d7, ?_⟩⟩⟩
  rw [show m.putm a t l mp = _ from if_pos hok]
  exact O7.up u8

set_option maxHeartbeats 2000000 in
theorem put_any (m : Me) (a t l mp : Int) (P Q : Addr) (c d : Nat) (w : World) (hm : Sits w m P Q c d) (ha : U64 a) (hmp : 0 ≤ mp) :
    Calls Try.prog 28 #[.agg #[.int .i64 m.n, .slice (some P) m.n c, .slice (some Q) m.n d], .int .u64 a, hdv t l mp] w (Gives1 w (m.putm a t l mp) (.int .i64 (m.pute a t l mp))) := by
  have HR := Lib.hid (put_run m a t l mp P Q c d)
  have HM := Lib.hid hm
  have HP := Lib.hid hmp
  have HA := Lib.hid ha
  generalize hK : m.putm a t l mp = K
  have HK := Lib.hid hK
  clear hm hmp ha hK
  go_enter Try.func28, Try.ntmps28
  go_wp2_with (fail)
  refine calls_at (fun Wz0 hWz0 => ?_)
  have M0 : Blk Wz0 (w.heap.size) 25 #[.int .i64 m.n, .slice (some P) m.n c, .slice (some Q) m.n d] := by rw [hWz0]; exact (((((((Blk.new' _ (by simp) _ _).alloc _).alloc _).alloc _).alloc _).alloc _).alloc _)
  have A0 : Blk Wz0 (w.heap.size + 1) 37 #[.int .u64 a] := by rw [hWz0]; exact ((((((Blk.new' _ (by simp) _ _).alloc _).alloc _).alloc _).alloc _).alloc _)
  have H0 : Blk Wz0 (w.heap.size + 1 + 1) 39 #[.int .i64 t, .int .i64 l, .int .u64 mp] := by rw [hWz0]; exact (((((Blk.new' _ (by simp) _ _).alloc _).alloc _).alloc _).alloc _)
  have R0 : Blk Wz0 (w.heap.size + 1 + 1 + 1) 25 #[.int .i64 0, .slice none 0 0, .slice none 0 0] := by rw [hWz0]; exact ((((Blk.new' _ (by simp) _ _).alloc _).alloc _).alloc _)
  have W0 : Blk Wz0 (w.heap.size + 1 + 1 + 1 + 1) 37 #[.int .u64 0] := by rw [hWz0]; exact (((Blk.new' _ (by simp) _ _).alloc _).alloc _)
  have O0 : Blk Wz0 (w.heap.size + 1 + 1 + 1 + 1 + 1) 25 #[.int .i64 m.n, .slice (some P) m.n c, .slice (some Q) m.n d] := by rw [hWz0]; exact ((Blk.new' _ (by simp) _ _).alloc _)
  have G0 : Blk Wz0 (w.heap.size + 1 + 1 + 1 + 1 + 1 + 1) 59 (List.map fnv [(37, #[bx (w.heap.size + 1 + 1), bx (w.heap.size + 1 + 1 + 1 + 1)]), (39, #[bx (w.heap.size), bx (w.heap.size + 1), bx (w.heap.size + 1 + 1)]), (41, #[bx (w.heap.size), bx (w.heap.size + 1), bx (w.heap.size + 1 + 1 + 1 + 1), bx (w.heap.size + 1 + 1 + 1 + 1 + 1)]), (43, #[bx (w.heap.size + 1 + 1 + 1 + 1 + 1), bx (w.heap.size + 1), bx (w.heap.size + 1 + 1)])]).toArray := by rw [hWz0]; exact Blk.new' _ (by simp) _ _
  have U0 : Up w Wz0 := by rw [hWz0]; exact ((((((((Up.refl w).alloc _).alloc _).alloc _).alloc _).alloc _).alloc _).alloc _)
  clear hWz0
  refine (do_any [(w.heap.size + 1 + 1 + 1 + 1), (w.heap.size + 1 + 1 + 1 + 1 + 1)] (PutPhi m a t l mp (w.heap.size + 1 + 1 + 1 + 1 + 1)) _ (w.heap.size + 1 + 1 + 1 + 1 + 1 + 1) Wz0 (by simp) (by simp <;> omega) G0 (HR.out _ _ _ _ _ _ HA.out HP.out (by omega) (by omega) (by omega) (by omega) ⟨M0, HM.out.up U0⟩ A0 H0 W0 ⟨O0, HM.out.up U0⟩)).mono ?_
  clear G0 A0 H0 W0 O0
  rintro e w1 ⟨x, rfl, k1, hx, hO⟩
  have HX := Lib.hid hx
  have R1 := R0.kp k1 (by simp <;> omega)
  have M1 := M0.kp k1 (by simp <;> omega)
  have U1 := U0.kp k1 (by simp; omega)
  clear R0 M0 U0 hx
  have R1c := R1.cell
  have R1f := R1.frozen
  have R1l := R1.lt
  by_cases h : x = 0
  · subst h
    obtain ⟨P', Q', c', d', hO⟩ := hO rfl
    rw [HK.out] at hO
    obtain ⟨O1, S1⟩ := hO
    have O1c := O1.cell
    go_wp2
    refine bodyPost_ret (v := .tuple #[.agg #[.int .i64 K.n, .slice (some P') K.n c', .slice (some Q') K.n d'], .int .i64 0]) (by simp [results, Try.results28, go_sem, R1c, R1l]) rfl ⟨P', Q', c', d', by rw [← HX.out], ?_, ?_⟩
    · exact S1.far3 R1 _ _ _
    · exact U1.set3 (by omega) _ _ _
  · have HN := Lib.hid (show K = m from HK.out.symm.trans (if_neg (fun q => h (HX.out.trans (pute_0.2 q)))))
    have hb : (x != 0) = true := bne_iff_ne.mpr h
    have M1c := M1.cell
    clear hO h
    go_wp2
    refine bodyPost_ret (v := .tuple #[.agg #[.int .i64 m.n, .slice (some P) m.n c, .slice (some Q) m.n d], .int .i64 x]) (by simp [results, Try.results28, go_sem, R1c, R1l]) rfl ⟨P, Q, c, d, by rw [← HX.out, HN.out], ?_, ?_⟩
    · rw [HN.out]
      exact (HM.out.up U1).far3 R1 _ _ _
    · exact U1.set3 (by omega) _ _ _

/-- So many words may be filled. -/
def flb (n : Int) : Bool := decide (1 ≤ n ∧ n ≤ 65536)
set_option maxHeartbeats 1000000 in
theorem fill_c1 (n : Int) (Bn : Nat) (w : World) (hN : Blk w Bn 3 #[.int .i64 n]) :
    Calls Try.prog 25 #[bx Bn] w (fun e w' => e = .returned (.int .i64 (unl (flb n) 1)) ∧ w = w') := by
  have R0 := hN.cell
  by_cases h0 : 1 ≤ n
  · by_cases h1 : n ≤ 65536
    · rw [show flb n = true from decide_eq_true ⟨h0, h1⟩]
      have hl := Lib.hid (unless_any true 1 w)
      go_enter Try.func25, Try.ntmps25
      go_wp2_with (fail)
      refine hl.out.mono ?_
      rintro e w1 ⟨rfl, h1⟩
      go_wp2
      go_ret
      exact ⟨rfl, h1⟩
    · rw [show flb n = false from decide_eq_false (fun q => h1 q.2)]
      have hl := Lib.hid (unless_any false 1 w)
      have hd : decide (n ≤ 65536) = false := decide_eq_false h1
      clear h1
      go_enter Try.func25, Try.ntmps25
      go_wp2_with (fail)
      refine hl.out.mono ?_
      rintro e w1 ⟨rfl, h1⟩
      go_wp2
      go_ret
      exact ⟨rfl, h1⟩
  · rw [show flb n = false from decide_eq_false (fun q => h0 q.1)]
    have hl := Lib.hid (unless_any false 1 w)
    have hd : decide (1 ≤ n) = false := decide_eq_false h0
    clear h0
    go_enter Try.func25, Try.ntmps25
    go_wp2_with (fail)
    refine hl.out.mono ?_
    rintro e w1 ⟨rfl, h1⟩
    go_wp2
    go_ret
    exact ⟨rfl, h1⟩

set_option maxHeartbeats 1000000 in
theorem fill_c2 (m : Me) (a n : Int) (x0 x1 x2 : Value) (P Q : Addr) (c d Bm Ba Bn Bo : Nat) (w : World) (ha : U64 a) (h0 : 1 ≤ n) (h1 : n ≤ 65536) (hM : Box w Bm m P Q c d) (hA : Blk w Ba 37 #[.int .u64 a]) (hN : Blk w Bn 3 #[.int .i64 n]) (hO : Blk w Bo 25 #[x0, x1, x2]) :
    Calls Try.prog 27 #[bx Bm, bx Ba, bx Bn, bx Bo] w (OutPost Bo (m.putm a 255 (n - 1) 0) (m.pute a 255 (n - 1) 0) w) := by
  have hl := Lib.hid (put_any m a 255 (n - 1) 0 P Q c d w hM.2 ha (by decide))
  have R0 := (hM.1).cell
  have R1 := (hA).cell
  have R2 := (hN).cell
  generalize m.putm a 255 (n - 1) 0 = K at hl ⊢
  generalize m.pute a 255 (n - 1) 0 = z at hl ⊢
  go_enter Try.func27, Try.ntmps27
  go_wp2_with (fail)
  refine hl.out.mono ?_
  rintro e w1 ⟨P', Q', c', d', rfl, s1, h1⟩
  have W1 := hO.up h1
  have K1 := Kp.of_up (S := [Bo]) h1
  have W1c := W1.cell
  have W1f := W1.frozen
  have W1l := W1.lt
  clear h1 hO
  go_wp2
  go_ret
  exact ⟨rfl, K1.set3 (by simp) _ _ _, P', Q', c', d', W1.set3 _ _ _, s1.far3 W1 _ _ _⟩

def Me.fille (m : Me) (a n : Int) : Int := if flb n = true then m.pute a 255 (n - 1) 0 else 1
def Me.fillm (m : Me) (a n : Int) : Me := if flb n = true then m.putm a 255 (n - 1) 0 else m
/-- What the row of Fill comes to. -/
def FlPhi (m : Me) (a n : Int) (Bo : Nat) (x : Int) (w' : World) : Prop := x = m.fille a n ∧ ∃ P Q c d, Box w' Bo (m.fillm a n) P Q c d
theorem fill_run (m : Me) (a n : Int) (P Q : Addr) (c d Bm Ba Bn Bo : Nat) (w : World) (ha : U64 a) (h1 : Bm < Ba) (h2 : Ba < Bn) (h3 : Bn < Bo)
    (hM : Box w Bm m P Q c d) (hA : Blk w Ba 37 #[.int .u64 a]) (hN : Blk w Bn 3 #[.int .i64 n]) (hO : Box w Bo m P Q c d) :
    Run [Bo] (FlPhi m a n Bo) [(25, #[bx Bn]), (27, #[bx Bm, bx Ba, bx Bn, bx Bo])] w := by
  refine ⟨Try.call25, fun w0 u0 => ?_⟩
  refine (fill_c1 n Bn w0 (hN.up u0)).mono ?_
  rintro e w1 ⟨rfl, rfl⟩
  refine ⟨_, rfl, Kp.refl _ _, fun hx w2 u2 => ?_, fun hx => ?_⟩
  · have hb : flb n = false := by
      cases h : flb n
      · rfl
      · rw [h] at hx; exact absurd rfl hx
    refine ⟨?_, P, Q, c, d, ?_⟩
    · rw [hb, show m.fille a n = 1 from if_neg (by rw [hb]; decide)]
      rfl
    · rw [show m.fillm a n = m from if_neg (by rw [hb]; decide)]
      exact (hO.up u0).up u2
  have hb : flb n = true := by
    cases h : flb n
    · rw [h] at hx; cases hx
    · rfl
  obtain ⟨n0, n1⟩ := of_decide_eq_true hb
  refine ⟨Try.call27, fun w2 u2 => ?_⟩
  refine (fill_c2 m a n _ _ _ P Q c d Bm Ba Bn Bo w2 ha n0 n1 ((hM.up u0).up u2) ((hA.up u0).up u2) ((hN.up u0).up u2) ((hO.1.up u0).up u2)).mono ?_
  rintro e w3 ⟨rfl, k3, P3, Q3, c3, d3, O3⟩
  have e1 : m.fille a n = _ := if_pos hb
  have e2 : m.fillm a n = _ := if_pos hb
  refine ⟨_, rfl, k3, fun _ w4 u4 => ⟨e1.symm, P3, Q3, c3, d3, ?_⟩, fun hq w4 u4 => ⟨hq.symm.trans e1.symm, P3, Q3, c3, d3, ?_⟩⟩
  all_goals
    rw [e2]
    exact O3.up u4

set_option maxHeartbeats 2000000 in
theorem fill_any (m : Me) (a n : Int) (P Q : Addr) (c d : Nat) (w : World) (hm : Sits w m P Q c d) (ha : U64 a) :
    Calls Try.prog 14 #[.agg #[.int .i64 m.n, .slice (some P) m.n c, .slice (some Q) m.n d], .int .u64 a, .int .i64 n] w (Gives1 w (m.fillm a n) (.int .i64 (m.fille a n))) := by
  have HR := Lib.hid (fill_run m a n P Q c d)
  have HM := Lib.hid hm
  have HA := Lib.hid ha
  generalize hK : m.fillm a n = K
  have HK := Lib.hid hK
  clear hm ha hK
  go_enter Try.func14, Try.ntmps14
  go_wp2_with (fail)
  refine calls_at (fun Wz0 hWz0 => ?_)
  have M0 : Blk Wz0 (w.heap.size) 25 #[.int .i64 m.n, .slice (some P) m.n c, .slice (some Q) m.n d] := by rw [hWz0]; exact ((((((Blk.new' _ (by simp) _ _).alloc _).alloc _).alloc _).alloc _).alloc _)
  have A0 : Blk Wz0 (w.heap.size + 1) 37 #[.int .u64 a] := by rw [hWz0]; exact (((((Blk.new' _ (by simp) _ _).alloc _).alloc _).alloc _).alloc _)
  have N0 : Blk Wz0 (w.heap.size + 1 + 1) 3 #[.int .i64 n] := by rw [hWz0]; exact ((((Blk.new' _ (by simp) _ _).alloc _).alloc _).alloc _)
  have R0 : Blk Wz0 (w.heap.size + 1 + 1 + 1) 25 #[.int .i64 0, .slice none 0 0, .slice none 0 0] := by rw [hWz0]; exact (((Blk.new' _ (by simp) _ _).alloc _).alloc _)
  have O0 : Blk Wz0 (w.heap.size + 1 + 1 + 1 + 1) 25 #[.int .i64 m.n, .slice (some P) m.n c, .slice (some Q) m.n d] := by rw [hWz0]; exact ((Blk.new' _ (by simp) _ _).alloc _)
  have G0 : Blk Wz0 (w.heap.size + 1 + 1 + 1 + 1 + 1) 59 (List.map fnv [(25, #[bx (w.heap.size + 1 + 1)]), (27, #[bx (w.heap.size), bx (w.heap.size + 1), bx (w.heap.size + 1 + 1), bx (w.heap.size + 1 + 1 + 1 + 1)])]).toArray := by rw [hWz0]; exact Blk.new' _ (by simp) _ _
  have U0 : Up w Wz0 := by rw [hWz0]; exact (((((((Up.refl w).alloc _).alloc _).alloc _).alloc _).alloc _).alloc _)
  clear hWz0
  refine (do_any [(w.heap.size + 1 + 1 + 1 + 1)] (FlPhi m a n (w.heap.size + 1 + 1 + 1 + 1)) _ (w.heap.size + 1 + 1 + 1 + 1 + 1) Wz0 (by simp) (by simp <;> omega) G0 (HR.out _ _ _ _ _ HA.out (by omega) (by omega) (by omega) ⟨M0, HM.out.up U0⟩ A0 N0 ⟨O0, HM.out.up U0⟩)).mono ?_
  clear G0 M0 A0 N0 O0
  rintro e w1 ⟨x, rfl, k1, hx, P', Q', c', d', hO⟩
  rw [HK.out] at hO
  obtain ⟨O1, S1⟩ := hO
  have HX := Lib.hid hx
  have R1 := R0.kp k1 (by simp <;> omega)
  have U1 := U0.kp k1 (by simp; omega)
  clear R0 U0 hx
  have R1c := R1.cell
  have R1f := R1.frozen
  have R1l := R1.lt
  have O1c := O1.cell
  go_wp2
  refine bodyPost_ret (v := .tuple #[.agg #[.int .i64 K.n, .slice (some P') K.n c', .slice (some Q') K.n d'], .int .i64 x]) (by simp [results, Try.results14, go_sem, R1c, R1l]) rfl ⟨P', Q', c', d', by rw [← HX.out], ?_, ?_⟩
  · exact S1.far3 R1 _ _ _
  · exact U1.set3 (by omega) _ _ _

end Go.Proofs.Ytjolikgficknnaa
