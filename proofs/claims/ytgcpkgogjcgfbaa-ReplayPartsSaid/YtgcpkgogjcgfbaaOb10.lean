/- The document's answers for what is put (dovecoteref05: Put, Fill): contracts. -/
import Derived.Test.YtgcpkgogjcgfbaaOb9
namespace Go.Proofs.Ytgcpkgogjcgfbaa
open Go.ChangeShapes Go.WideShapes Go.ChangeAt Go.RowKit
set_option linter.unusedVariables false
set_option linter.unusedSimpArgs false

set_option maxHeartbeats 1000000 in
theorem rput_bad (m : Me) (a t l mp : Int) (x : Int) (P Q : Addr) (c d : Nat) (w : World) (hm : Sits w m P Q c d) (ha : U64 a) (hmp : 0 ≤ mp) (hx : rte t l mp = x) (h0 : x ≠ 0) :
    Calls Try.prog 23 #[.agg #[.int .i64 m.n, .slice (some P) m.n c, .slice (some Q) m.n d], .int .u64 a, hdv t l mp] w (Gives1 w m (.int .i64 x)) := by
  have hw := fun w => rword_any t l mp hmp w
  rw [show wov t l mp = 0 from if_neg (fun q => h0 (hx.symm.trans q)), hx] at hw
  have hw := Lib.hid hw
  have hb : (x != 0) = true := bne_iff_ne.mpr h0
  have HM := Lib.hid hm
  clear hm ha hmp hx h0
  go_enter Try.func23, Try.ntmps23
  go_wp2_with (fail)
  refine (hw.out _).mono ?_
  rintro e w1 ⟨rfl, h1⟩
  have M1 : Blk w1 w.heap.size 25 #[.int .i64 m.n, .slice (some P) m.n c, .slice (some Q) m.n d] := (((Blk.new' w rfl _ _).alloc (.cells #[.int .i64 t, .int .i64 l, .int .u64 mp] 55)).alloc (.cells #[.int .i64 0, .slice none 0 0, .slice none 0 0] 25)).up h1
  have H1 : Blk w1 (w.heap.size + 1) 55 #[.int .i64 t, .int .i64 l, .int .u64 mp] := ((Blk.new' (w.alloc (.cells #[.int .i64 m.n, .slice (some P) m.n c, .slice (some Q) m.n d] 25)) (by simp) _ _).alloc (.cells #[.int .i64 0, .slice none 0 0, .slice none 0 0] 25)).up h1
  have R1 : Blk w1 (w.heap.size + 1 + 1) 25 #[.int .i64 0, .slice none 0 0, .slice none 0 0] := (Blk.new' ((w.alloc (.cells #[.int .i64 m.n, .slice (some P) m.n c, .slice (some Q) m.n d] 25)).alloc (.cells #[.int .i64 t, .int .i64 l, .int .u64 mp] 55)) (by simp) _ _).up h1
  have U1 : Up w w1 := ((((Up.refl w).alloc _).alloc _).alloc _).trans h1
  clear h1
  have M1c := M1.cell
  have M1f := M1.frozen
  have M1l := M1.lt
  have R1c := R1.cell
  have R1f := R1.frozen
  have R1l := R1.lt
  go_wp2
  refine bodyPost_ret (v := .tuple #[.agg #[.int .i64 m.n, .slice (some P) m.n c, .slice (some Q) m.n d], .int .i64 x]) (by simp [results, Try.results23, go_sem, R1c, R1l]) rfl ⟨P, Q, c, d, rfl, (HM.out.up U1).far3 R1 _ _ _, U1.set3 (by omega) _ _ _⟩

set_option maxHeartbeats 2000000 in
theorem rput_far (m : Me) (a t l mp : Int) (P Q : Addr) (c d : Nat) (w : World) (hm : Sits w m P Q c d) (ha : U64 a) (hmp : 0 ≤ mp) (hh : rte t l mp = 0) (hi : ¬ m.inn a (wdn t l)) :
    Calls Try.prog 23 #[.agg #[.int .i64 m.n, .slice (some P) m.n c, .slice (some Q) m.n d], .int .u64 a, hdv t l mp] w (Gives1 w m (.int .i64 2)) := by
  have hw := fun w => rword_any t l mp hmp w
  rw [show wov t l mp = wrd t l mp from if_pos hh, hh] at hw
  have hwd := Lib.hid (fun w => rhwords_any t l mp hmp hh w)
  have hth := fun w => rthere5_any m a (wdn t l) P Q c d w hm.1.2.1 ha (wdn_small hmp hh).1
  rw [decide_eq_false hi] at hth
  have hw := Lib.hid hw
  have hth := Lib.hid hth
  have HM := Lib.hid hm
  clear hm ha hmp hh hi
  generalize wdn t l = k at hwd hth
  generalize wrd t l mp = wv at hw
  go_enter Try.func23, Try.ntmps23
  go_wp2_with (fail)
  refine (hw.out _).mono ?_
  rintro e w1 ⟨rfl, h1⟩
  have M1 : Blk w1 w.heap.size 25 #[.int .i64 m.n, .slice (some P) m.n c, .slice (some Q) m.n d] := (((Blk.new' w rfl _ _).alloc (.cells #[.int .i64 t, .int .i64 l, .int .u64 mp] 55)).alloc (.cells #[.int .i64 0, .slice none 0 0, .slice none 0 0] 25)).up h1
  have H1 : Blk w1 (w.heap.size + 1) 55 #[.int .i64 t, .int .i64 l, .int .u64 mp] := ((Blk.new' (w.alloc (.cells #[.int .i64 m.n, .slice (some P) m.n c, .slice (some Q) m.n d] 25)) (by simp) _ _).alloc (.cells #[.int .i64 0, .slice none 0 0, .slice none 0 0] 25)).up h1
  have R1 : Blk w1 (w.heap.size + 1 + 1) 25 #[.int .i64 0, .slice none 0 0, .slice none 0 0] := (Blk.new' ((w.alloc (.cells #[.int .i64 m.n, .slice (some P) m.n c, .slice (some Q) m.n d] 25)).alloc (.cells #[.int .i64 t, .int .i64 l, .int .u64 mp] 55)) (by simp) _ _).up h1
  have U1 : Up w w1 := ((((Up.refl w).alloc _).alloc _).alloc _).trans h1
  clear h1
  have M2 := M1.drew
  have H2 := H1.drew
  have R2 := R1.drew
  have U2 := U1.drew
  have UU := Up.refl w1.drew
  have M1c := M1.cell
  have M1f := M1.frozen
  have M1l := M1.lt
  have H1c := H1.cell
  have H1f := H1.frozen
  have H1l := H1.lt
  go_wp2_with (fail)
  clear M1 H1 R1 U1 M1c M1f M1l H1c H1f H1l
  go_region_held3 (fun w' => (∀ i, w'.cell? ⟨w.heap.size, i, none⟩ = (#[.int .i64 m.n, .slice (some P) m.n c, .slice (some Q) m.n d] : Array Value)[i]?) ∧ (∀ i, w'.cell? ⟨w.heap.size + 1, i, none⟩ = (#[.int .i64 t, .int .i64 l, .int .u64 mp] : Array Value)[i]?))
    (exact ⟨fun i => (Blk.up M2 (by assumption)).cell i, fun i => (Blk.up H2 (by assumption)).cell i⟩)
    (first
      | (go_at_call 40; ((with_reducible refine (hwd.out _).mono ?_); rintro e wz ⟨rfl, hz⟩; have UZ := Up.trans (a := w1.drew) (by assumption) hz))
      | (go_at_call 39; ((with_reducible refine (hth.out _).mono ?_); rintro e wz ⟨rfl, hz⟩; have UZ := Up.trans (a := w1.drew) (by assumption) hz)))
  have M3 := M2.up UZ
  have H3 := H2.up UZ
  have R3 := R2.up UZ
  have U3 := U2.trans UZ
  have M3c := M3.cell
  have M3f := M3.frozen
  have M3l := M3.lt
  have H3c := H3.cell
  have H3f := H3.frozen
  have H3l := H3.lt
  have R3c := R3.cell
  have R3f := R3.frozen
  have R3l := R3.lt
  go_wp2
  refine bodyPost_ret (v := .tuple #[.agg #[.int .i64 m.n, .slice (some P) m.n c, .slice (some Q) m.n d], .int .i64 2]) (by simp [results, Try.results23, go_sem, R3c, R3l]) rfl ⟨P, Q, c, d, rfl, (HM.out.up U3).far3 R3 _ _ _, U3.set3 (by omega) _ _ _⟩

set_option maxHeartbeats 2000000 in
theorem rput_fill (m : Me) (a l mp : Int) (P Q : Addr) (c d : Nat) (w : World) (hm : Sits w m P Q c d) (ha : U64 a) (hmp : 0 ≤ mp) (hh : rte 255 l mp = 0) (hi : m.inn a (wdn 255 l)) :
    Calls Try.prog 23 #[.agg #[.int .i64 m.n, .slice (some P) m.n c, .slice (some Q) m.n d], .int .u64 a, hdv 255 l mp] w (Gives1 w (m.st a (wrd 255 l mp)) (.int .i64 0)) := by
  have hw := fun w => rword_any 255 l mp hmp w
  rw [show wov 255 l mp = wrd 255 l mp from if_pos hh, hh] at hw
  have hwd := Lib.hid (fun w => rhwords_any 255 l mp hmp hh w)
  have hth := fun w => rthere5_any m a (wdn 255 l) P Q c d w hm.1.2.1 ha (wdn_small hmp hh).1
  rw [decide_eq_true hi] at hth
  have hw := Lib.hid hw
  have hth := Lib.hid hth
  have HM := Lib.hid hm
  have hst := Lib.hid (fun (W : World) (hS : Sits W m P Q c d) => show Calls Try.prog 44 #[.agg #[.int .i64 m.n, .slice (some P) m.n c, .slice (some Q) m.n d], .int .u64 a, .int .u64 (wrd 255 l mp)] W (Gives1 W (m.st a (wrd 255 l mp)) (.int .i64 0)) from by
    have h := rstore_any m a (wrd 255 l mp) P Q c d W hS ha
    rw [show m.lde a = 0 from if_pos (pok_there hmp ⟨hh, hi⟩)] at h
    exact h)
  clear hm ha hmp hh hi
  generalize wdn 255 l = k at hwd hth
  generalize m.st a (wrd 255 l mp) = K at hst ⊢
  generalize wrd 255 l mp = wv at hw hst
  go_enter Try.func23, Try.ntmps23
  go_wp2_with (fail)
  refine (hw.out _).mono ?_
  rintro e w1 ⟨rfl, h1⟩
  have M1 : Blk w1 w.heap.size 25 #[.int .i64 m.n, .slice (some P) m.n c, .slice (some Q) m.n d] := (((Blk.new' w rfl _ _).alloc (.cells #[.int .i64 255, .int .i64 l, .int .u64 mp] 55)).alloc (.cells #[.int .i64 0, .slice none 0 0, .slice none 0 0] 25)).up h1
  have H1 : Blk w1 (w.heap.size + 1) 55 #[.int .i64 255, .int .i64 l, .int .u64 mp] := ((Blk.new' (w.alloc (.cells #[.int .i64 m.n, .slice (some P) m.n c, .slice (some Q) m.n d] 25)) (by simp) _ _).alloc (.cells #[.int .i64 0, .slice none 0 0, .slice none 0 0] 25)).up h1
  have R1 : Blk w1 (w.heap.size + 1 + 1) 25 #[.int .i64 0, .slice none 0 0, .slice none 0 0] := (Blk.new' ((w.alloc (.cells #[.int .i64 m.n, .slice (some P) m.n c, .slice (some Q) m.n d] 25)).alloc (.cells #[.int .i64 255, .int .i64 l, .int .u64 mp] 55)) (by simp) _ _).up h1
  have U1 : Up w w1 := ((((Up.refl w).alloc _).alloc _).alloc _).trans h1
  clear h1
  have M2 := M1.drew
  have H2 := H1.drew
  have R2 := R1.drew
  have U2 := U1.drew
  have UU := Up.refl w1.drew
  have M1c := M1.cell
  have M1f := M1.frozen
  have M1l := M1.lt
  have H1c := H1.cell
  have H1f := H1.frozen
  have H1l := H1.lt
  go_wp2_with (fail)
  clear M1 H1 R1 U1 M1c M1f M1l H1c H1f H1l
  go_region_held3 (fun w' => (∀ i, w'.cell? ⟨w.heap.size, i, none⟩ = (#[.int .i64 m.n, .slice (some P) m.n c, .slice (some Q) m.n d] : Array Value)[i]?) ∧ (∀ i, w'.cell? ⟨w.heap.size + 1, i, none⟩ = (#[.int .i64 255, .int .i64 l, .int .u64 mp] : Array Value)[i]?))
    (exact ⟨fun i => (Blk.up M2 (by assumption)).cell i, fun i => (Blk.up H2 (by assumption)).cell i⟩)
    (first
      | (go_at_call 40; ((with_reducible refine (hwd.out _).mono ?_); rintro e wz ⟨rfl, hz⟩; have UZ := Up.trans (a := w1.drew) (by assumption) hz))
      | (go_at_call 39; ((with_reducible refine (hth.out _).mono ?_); rintro e wz ⟨rfl, hz⟩; have UZ := Up.trans (a := w1.drew) (by assumption) hz)))
  have M3 := M2.up UZ
  have H3 := H2.up UZ
  have R3 := R2.up UZ
  have U3 := U2.trans UZ
  have M3c := M3.cell
  have M3f := M3.frozen
  have M3l := M3.lt
  have H3c := H3.cell
  have H3f := H3.frozen
  have H3l := H3.lt
  have R3c := R3.cell
  have R3f := R3.frozen
  have R3l := R3.lt
  go_wp2_with (fail)
  refine (hst.out _ (HM.out.up U3)).mono ?_
  rintro e w4 ⟨P4, Q4, c4, d4, rfl, S4, h4⟩
  have M4 := M3.up h4
  have H4 := H3.up h4
  have R4 := R3.up h4
  have U4 := U3.trans h4
  clear M3c M3f M3l M3 H3c H3f H3l H3 R3c R3f R3l R3
  clear h4 U3
  have M4c := M4.cell
  have M4f := M4.frozen
  have M4l := M4.lt
  have H4c := H4.cell
  have H4f := H4.frozen
  have H4l := H4.lt
  have R4c := R4.cell
  have R4f := R4.frozen
  have R4l := R4.lt
  have U5 := U4.set3 (g := w.heap.size) (Nat.le_refl _) (.int .i64 K.n) (.slice (some P4) K.n c4) (.slice (some Q4) K.n d4)
  have S5 := S4.far3 M4 (.int .i64 K.n) (.slice (some P4) K.n c4) (.slice (some Q4) K.n d4)
  have R5 := ((R4.far (p := ⟨w.heap.size, 0, none⟩) (by simp <;> omega) (.int .i64 K.n)).far (p := ⟨w.heap.size, 1, none⟩) (by simp <;> omega) (.slice (some P4) K.n c4)).far (p := ⟨w.heap.size, 2, none⟩) (by simp <;> omega) (.slice (some Q4) K.n d4)
  go_wp2
  refine bodyPost_ret (v := .tuple #[.agg #[.int .i64 K.n, .slice (some P4) K.n c4, .slice (some Q4) K.n d4], .int .i64 0]) (by simp [results, Try.results23, go_sem, R4c, R4l, Nat.ne_of_lt R4l]) rfl ⟨P4, Q4, c4, d4, rfl, S5.far3 R5 _ _ _, U5.set3 (by omega) _ _ _⟩

/-- Where the memory of a round lies. -/
def PutRel (m : Me) (a : Int) (L B : Nat) (w0 : World) (i : Value) (wr : World) : Prop := ∃ k : Nat, k ≤ L ∧ i = .int .i64 (k : Int) ∧ Kp [B] w0 wr ∧ ∃ P Q c d, Box wr B (m.zs a k) P Q c d

set_option maxHeartbeats 4000000 in
theorem rput_obj (m : Me) (a t l mp : Int) (P Q : Addr) (c d : Nat) (w : World) (hm : Sits w m P Q c d) (ha : U64 a) (hmp : 0 ≤ mp) (hh : rte t l mp = 0) (hi : m.inn a (wdn t l)) (ht : t ≠ 255) :
    Calls Try.prog 23 #[.agg #[.int .i64 m.n, .slice (some P) m.n c, .slice (some Q) m.n d], .int .u64 a, hdv t l mp] w (Gives1 w ((m.st a (wrd t l mp)).zs a (l + 1).toNat) (.int .i64 0)) := by
  have hw := fun w => rword_any t l mp hmp w
  rw [show wov t l mp = wrd t l mp from if_pos hh, hh] at hw
  have hwd := Lib.hid (fun w => rhwords_any t l mp hmp hh w)
  have hth := fun w => rthere5_any m a (wdn t l) P Q c d w hm.1.2.1 ha (wdn_small hmp hh).1
  rw [decide_eq_true hi] at hth
  have hw := Lib.hid hw
  have hth := Lib.hid hth
  have HM := Lib.hid hm
  have hst := Lib.hid (fun (W : World) (hS : Sits W m P Q c d) => show Calls Try.prog 44 #[.agg #[.int .i64 m.n, .slice (some P) m.n c, .slice (some Q) m.n d], .int .u64 a, .int .u64 (wrd t l mp)] W (Gives1 W (m.st a (wrd t l mp)) (.int .i64 0)) from by
    have h := rstore_any m a (wrd t l mp) P Q c d W hS ha
    rw [show m.lde a = 0 from if_pos (pok_there hmp ⟨hh, hi⟩)] at h
    exact h)
  obtain ⟨n, rfl⟩ : ∃ n : Nat, l = n := ⟨l.toNat, by have := (rte_small hmp hh).2.2.1; omega⟩
  have n16 : n ≤ 16 := by have := (rte_small hmp hh).2.2.2.2.2; omega
  have hi' : m.inn a (n + 2) := by rw [← show wdn t n = (n : Int) + 2 from if_neg ht]; exact hi
  have hoff := Lib.hid (fun (k : Nat) (hk : k < n + 1) => (inn_off (j := (k + 1 : Int)) hm.1.2.1 hi' (by omega) (by omega)).2.2)
  have hb : (t == 255) = false := beq_eq_false_iff_ne.mpr ht
  have a0 := ha.1
  have hKn := Lib.hid (Me.st_n m a (wrd t n mp))
  rw [show ((n : Int) + 1).toNat = n + 1 from by omega]
  clear hm ha hmp hh hi hi' ht
  generalize wdn t n = kk at hwd hth
  generalize m.st a (wrd t n mp) = K at hst hKn ⊢
  generalize wrd t n mp = wv at hw hst
  go_enter Try.func23, Try.ntmps23
  go_wp2_with (fail)
  refine (hw.out _).mono ?_
  rintro e w1 ⟨rfl, h1⟩
  have M1 : Blk w1 w.heap.size 25 #[.int .i64 m.n, .slice (some P) m.n c, .slice (some Q) m.n d] := (((Blk.new' w rfl _ _).alloc (.cells #[.int .i64 t, .int .i64 n, .int .u64 mp] 55)).alloc (.cells #[.int .i64 0, .slice none 0 0, .slice none 0 0] 25)).up h1
  have H1 : Blk w1 (w.heap.size + 1) 55 #[.int .i64 t, .int .i64 n, .int .u64 mp] := ((Blk.new' (w.alloc (.cells #[.int .i64 m.n, .slice (some P) m.n c, .slice (some Q) m.n d] 25)) (by simp) _ _).alloc (.cells #[.int .i64 0, .slice none 0 0, .slice none 0 0] 25)).up h1
  have R1 : Blk w1 (w.heap.size + 1 + 1) 25 #[.int .i64 0, .slice none 0 0, .slice none 0 0] := (Blk.new' ((w.alloc (.cells #[.int .i64 m.n, .slice (some P) m.n c, .slice (some Q) m.n d] 25)).alloc (.cells #[.int .i64 t, .int .i64 n, .int .u64 mp] 55)) (by simp) _ _).up h1
  have U1 : Up w w1 := ((((Up.refl w).alloc _).alloc _).alloc _).trans h1
  clear h1
  have M2 := M1.drew
  have H2 := H1.drew
  have R2 := R1.drew
  have U2 := U1.drew
  have UU := Up.refl w1.drew
  have M1c := M1.cell
  have M1f := M1.frozen
  have M1l := M1.lt
  have H1c := H1.cell
  have H1f := H1.frozen
  have H1l := H1.lt
  go_wp2_with (fail)
  clear M1 H1 R1 U1 M1c M1f M1l H1c H1f H1l
  go_region_held3 (fun w' => (∀ i, w'.cell? ⟨w.heap.size, i, none⟩ = (#[.int .i64 m.n, .slice (some P) m.n c, .slice (some Q) m.n d] : Array Value)[i]?) ∧ (∀ i, w'.cell? ⟨w.heap.size + 1, i, none⟩ = (#[.int .i64 t, .int .i64 n, .int .u64 mp] : Array Value)[i]?))
    (exact ⟨fun i => (Blk.up M2 (by assumption)).cell i, fun i => (Blk.up H2 (by assumption)).cell i⟩)
    (first
      | (go_at_call 40; ((with_reducible refine (hwd.out _).mono ?_); rintro e wz ⟨rfl, hz⟩; have UZ := Up.trans (a := w1.drew) (by assumption) hz))
      | (go_at_call 39; ((with_reducible refine (hth.out _).mono ?_); rintro e wz ⟨rfl, hz⟩; have UZ := Up.trans (a := w1.drew) (by assumption) hz)))
  have M3 := M2.up UZ
  have H3 := H2.up UZ
  have R3 := R2.up UZ
  have U3 := U2.trans UZ
  have M3c := M3.cell
  have M3f := M3.frozen
  have M3l := M3.lt
  have H3c := H3.cell
  have H3f := H3.frozen
  have H3l := H3.lt
  have R3c := R3.cell
  have R3f := R3.frozen
  have R3l := R3.lt
  go_wp2_with (fail)
  refine (hst.out _ (HM.out.up U3)).mono ?_
  rintro e w4 ⟨P4, Q4, c4, d4, rfl, S4, h4⟩
  have M4 := M3.up h4
  have H4 := H3.up h4
  have R4 := R3.up h4
  have U4 := U3.trans h4
  clear M3c M3f M3l M3 H3c H3f H3l H3 R3c R3f R3l R3
  clear h4 U3
  have M4c := M4.cell
  have M4f := M4.frozen
  have M4l := M4.lt
  have H4c := H4.cell
  have H4f := H4.frozen
  have H4l := H4.lt
  have R4c := R4.cell
  have R4f := R4.frozen
  have R4l := R4.lt
  go_wp2_with (fail)
  generalize hW0 : ((w4.setCell ⟨w.heap.size, 0, none⟩ (.int .i64 K.n)).setCell ⟨w.heap.size, 1, none⟩ (.slice (some P4) K.n c4)).setCell ⟨w.heap.size, 2, none⟩ (.slice (some Q4) K.n d4) = W0
  have M5 : Blk W0 w.heap.size 25 #[.int .i64 K.n, .slice (some P4) K.n c4, .slice (some Q4) K.n d4] := by rw [← hW0]; exact M4.set3 _ _ _
  have S5 : Sits W0 K P4 Q4 c4 d4 := by rw [← hW0]; exact S4.far3 M4 _ _ _
  have U5 : Up w W0 := by rw [← hW0]; exact U4.set3 (Nat.le_refl _) _ _ _
  have R5 : Blk W0 (w.heap.size + 1 + 1) 25 #[.int .i64 0, .slice none 0 0, .slice none 0 0] := by rw [← hW0]; exact ((R4.far (by simp <;> omega) _).far (by simp <;> omega) _).far (by simp <;> omega) _
  have H5 : Blk W0 (w.heap.size + 1) 55 #[.int .i64 t, .int .i64 n, .int .u64 mp] := by rw [← hW0]; exact ((H4.far (by simp <;> omega) _).far (by simp <;> omega) _).far (by simp <;> omega) _
  clear hW0 M4 S4 R4 H4 M4c M4f M4l R4c R4f R4l H4c H4f H4l U4
  go_loopw [11] (PutRel K a (n + 1) w.heap.size W0) (fun i _ => n + 1 - (intOf i).toNat)
  case atStart => exact ⟨0, Nat.zero_le _, rfl, Kp.refl _ _, P4, Q4, c4, d4, M5, S5⟩
  case round =>
    obtain ⟨k, hk, rfl, hK, P1, Q1, c1, d1, hM⟩ := hrel
    have U6 := U5.kp hK (by simp)
    have M6 := hM.1
    have S6 := hM.2
    have H6 := H5.kp hK (by simp)
    have R6 := R5.kp hK (by simp <;> omega)
    have M6c := M6.cell
    have M6f := M6.frozen
    have M6l := M6.lt
    have H6c := H6.cell
    have H6f := H6.frozen
    have H6l := H6.lt
    have R6c := R6.cell
    have R6f := R6.frozen
    have R6l := R6.lt
    by_cases hlt : k < n + 1
    · obtain ⟨htk, b0, b1⟩ := hoff.out k hlt
      obtain ⟨N, hNe⟩ : ∃ N, K.zs a k = N := ⟨_, rfl⟩
      have hNn : N.n = m.n := by rw [← hNe, Me.zs_n]; exact hKn.out
      rw [hNe] at M6 S6 M6c
      have htN : N.there (a + (k + 1)) := (there_n hNn _).2 htk
      rw [show a + ((k : Int) + 1) = a + 1 + k from by omega] at b0 b1
      have hst2 := Lib.hid (fun (W : World) (hS : Sits W N P1 Q1 c1 d1) => show Calls Try.prog 44 #[.agg #[.int .i64 N.n, .slice (some P1) N.n c1, .slice (some Q1) N.n d1], .int .u64 (a + 1 + k), .int .u64 0] W (Gives1 W (K.zs a (k + 1)) (.int .i64 0)) from by
        have h := rstore_any N (a + (k + 1)) 0 P1 Q1 c1 d1 W hS (by rw [show a + ((k : Int) + 1) = a + 1 + k from by omega]; exact ⟨b0, b1⟩)
        rw [show N.lde (a + (k + 1)) = 0 from if_pos htN, ← hNe] at h
        rw [← hNe, show a + 1 + (k : Int) = a + (k + 1) from by omega]
        exact h)
      have hd : decide (k ≤ n) = true := decide_eq_true (by omega)
      have S6h := Lib.hid S6
      clear hM hNe hNn htN htk S6
      generalize hZ : K.zs a (k + 1) = Z at hst2
      have HZ := Lib.hid hZ
      clear hZ
      go_wp2_with (fail)
      refine (hst2.out _ S6h.out).mono ?_
      rintro e w7 ⟨P7, Q7, c7, d7, rfl, S7, h7⟩
      have M7 := M6.up h7
      have R7 := R6.up h7
      have U7 := U6.trans h7
      have K7 := hK.up h7
      clear h7 M6c M6f M6l R6c R6f R6l H6c H6f H6l M6 R6 U6 hK
      have M7c := M7.cell
      have M7f := M7.frozen
      have M7l := M7.lt
      have R7c := R7.cell
      have R7f := R7.frozen
      have R7l := R7.lt
      go_wp2
      refine ⟨⟨k + 1, hlt, by go_num, K7.set3 (by simp) _ _ _, P7, Q7, c7, d7, ?_⟩, by simp [intOf]; omega⟩
      rw [HZ.out]
      exact ⟨M7.set3 _ _ _, S7.far3 M7 _ _ _⟩
    · obtain rfl : k = n + 1 := by omega
      have hd : decide (n + 1 ≤ n) = false := decide_eq_false (by omega)
      go_wp2
      refine bodyPost_ret (v := .tuple #[.agg #[.int .i64 (K.zs a (n + 1)).n, .slice (some P1) (K.zs a (n + 1)).n c1, .slice (some Q1) (K.zs a (n + 1)).n d1], .int .i64 0]) (by simp [results, Try.results23, go_sem, R6c, R6l]) rfl ⟨P1, Q1, c1, d1, rfl, S6.far3 R6 _ _ _, U6.set3 (by omega) _ _ _⟩

theorem rput_any (m : Me) (a t l mp : Int) (P Q : Addr) (c d : Nat) (w : World) (hm : Sits w m P Q c d) (ha : U64 a) (hmp : 0 ≤ mp) :
    Calls Try.prog 23 #[.agg #[.int .i64 m.n, .slice (some P) m.n c, .slice (some Q) m.n d], .int .u64 a, hdv t l mp] w (Gives1 w (m.putm a t l mp) (.int .i64 (m.pute a t l mp))) := by
  by_cases hh : rte t l mp = 0
  · by_cases hi : m.inn a (wdn t l)
    · rw [show m.putm a t l mp = _ from if_pos ⟨hh, hi⟩, pute_0.2 ⟨hh, hi⟩]
      by_cases ht : t = 255
      · subst ht
        rw [show (m.st a (wrd 255 l mp)).blk a 255 l = m.st a (wrd 255 l mp) from if_pos rfl]
        exact rput_fill m a l mp P Q c d w hm ha hmp hh hi
      · rw [show (m.st a (wrd t l mp)).blk a t l = _ from if_neg ht]
        exact rput_obj m a t l mp P Q c d w hm ha hmp hh hi ht
    · rw [show m.putm a t l mp = m from if_neg (fun q => hi q.2), show m.pute a t l mp = 2 from (if_pos hh).trans (by rw [decide_eq_false hi]; rfl)]
      exact rput_far m a t l mp P Q c d w hm ha hmp hh hi
  · rw [show m.putm a t l mp = m from if_neg (fun q => hh q.1), show m.pute a t l mp = _ from if_neg hh]
    exact rput_bad m a t l mp _ P Q c d w hm ha hmp rfl hh

end Go.Proofs.Ytgcpkgogjcgfbaa
