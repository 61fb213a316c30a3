/- A step that has done nothing yet (act.begun); has, Writes: contracts. -/
import Derived.Test.YtddoljfkbkbfjaaGreatTv
namespace Go.Proofs.YtddoljfkbkbfjaaGreat.T
open G
open Go.Joins Go.ChangeShapes Go.WideShapes Go.ChangeAt Go.RowKit Go.Deep Go.Shelf Go.Maps
set_option linter.unusedVariables false
set_option linter.unusedSimpArgs false
section
variable {h : Hp} {j : Nat} {w : World} {t : Th}
theorem writes_any (o : Op) (w : World) : Calls Tryz.prog 20 #[opv o] w fun en w' => en = .returned (.bool (decide (4 ≤ o.kd ∧ o.kd ≤ 7))) ∧ Up w w' := by
  unfold opv
  have bO := Blk.new w 62 #[.int .i64 o.kd, .int .i64 o.h, .int .i64 o.i, .int .i64 o.k, .int .u64 o.v, .int .i64 o.t, .int .i64 o.l, .int .u64 o.m]
  have bc := bO.cell
  have bl := bO.lt
  clear bO
  by_cases h4 : o.kd = 4
  · have b4 : (o.kd == 4) = true := beq_iff_eq.2 h4
    have HE := Lib.hid h4
    clear h4
    go_enter Tryz.func20, Tryz.ntmps20
    go_wp2
    go_ret
    exact ⟨by rw [HE.out]; rfl, (Up.refl w).alloc _⟩
  have b4 : (o.kd == 4) = false := beq_eq_false_iff_ne.mpr h4
  by_cases h5 : o.kd = 5
  · have b5 : (o.kd == 5) = true := beq_iff_eq.2 h5
    have HE := Lib.hid h5
    clear h4 h5
    go_enter Tryz.func20, Tryz.ntmps20
    go_wp2
    go_ret
    exact ⟨by rw [HE.out]; rfl, (Up.refl w).alloc _⟩
  have b5 : (o.kd == 5) = false := beq_eq_false_iff_ne.mpr h5
  by_cases h6 : o.kd = 6
  · have b6 : (o.kd == 6) = true := beq_iff_eq.2 h6
    have HE := Lib.hid h6
    clear h4 h5 h6
    go_enter Tryz.func20, Tryz.ntmps20
    go_wp2
    go_ret
    exact ⟨by rw [HE.out]; rfl, (Up.refl w).alloc _⟩
  have b6 : (o.kd == 6) = false := beq_eq_false_iff_ne.mpr h6
  by_cases h7 : o.kd = 7
  · have b7 : (o.kd == 7) = true := beq_iff_eq.2 h7
    have HE := Lib.hid h7
    clear h4 h5 h6 h7
    go_enter Tryz.func20, Tryz.ntmps20
    go_wp2
    go_ret
    exact ⟨by rw [HE.out]; rfl, (Up.refl w).alloc _⟩
  have b7 : (o.kd == 7) = false := beq_eq_false_iff_ne.mpr h7
  have HE := Lib.hid (decide_eq_false (show ¬ (4 ≤ o.kd ∧ o.kd ≤ 7) by omega))
  clear h4 h5 h6 h7
  go_enter Tryz.func20, Tryz.ntmps20
  go_wp2
  go_ret
  exact ⟨by rw [HE.out]; rfl, (Up.refl w).alloc _⟩
/-- Is there such a thread? -/
theorem has_any (h : Hp) (P Q : Addr) (c d : Nat) (A : Option Addr) (n ct : Nat) (vo : Value) (th : Int) (w : World) (hn : n ≤ 9223372036854775807) : Calls Tryz.prog 29 #[.agg (hpc h P Q c d (.slice A n ct) vo), .int .i64 th] w fun en w' => en = .returned (.bool (decide (0 ≤ th ∧ th < n))) ∧ Up w w' := by
  unfold hpc
  have bO := Blk.new w 32 #[.int .i64 h.m.n, .slice (some P) h.m.n c, .slice (some Q) h.m.n d, .int .i64 h.fs, .int .i64 h.fa, .int .i64 h.fl, .int .i64 h.ts, .int .i64 h.ta, .int .i64 h.tl, .int .i64 h.sz, .int .i64 h.lg, (.slice A n ct), .int .i64 h.ph, .int .i64 h.sc, .int .i64 h.fp, vo, .int .i64 h.bk]
  have bc := bO.cell
  have bl := bO.lt
  clear bO
  by_cases h0 : 0 ≤ th
  · have b0 : decide (th ≥ 0) = true := decide_eq_true h0
    by_cases h1 : th < n
    · have b1 : decide (th < (n : Int)) = true := decide_eq_true h1
      have HE := Lib.hid (decide_eq_true (show (0 ≤ th ∧ th < n) from ⟨h0, h1⟩))
      clear h0 h1
      go_enter Tryz.func29, Tryz.ntmps29
      go_wp2
      go_ret
      exact ⟨by rw [HE.out]; rfl, (Up.refl w).alloc _⟩
    · have b1 : decide (th < (n : Int)) = false := decide_eq_false h1
      have HE := Lib.hid (decide_eq_false (show ¬ (0 ≤ th ∧ th < n) from fun q => h1 q.2))
      clear h0 h1
      go_enter Tryz.func29, Tryz.ntmps29
      go_wp2
      go_ret
      exact ⟨by rw [HE.out]; rfl, (Up.refl w).alloc _⟩
  · have b0 : decide (th ≥ 0) = false := decide_eq_false h0
    have HE := Lib.hid (decide_eq_false (show ¬ (0 ≤ th ∧ th < n) from fun q => h0 q.1))
    clear h0
    go_enter Tryz.func29, Tryz.ntmps29
    go_wp2
    go_ret
    exact ⟨by rw [HE.out]; rfl, (Up.refl w).alloc _⟩
/-- What begun leaves. -/
def Bg (h : Hp) (j : Nat) (w : World) (en : Ending) (w' : World) : Prop := ∃ b D T S3, en = .returned (.pointer (some ⟨D, 0, none⟩)) ∧ w.heap.size ≤ b ∧ b ≤ w'.heap.size ∧ St b D T S3 h j oz ks0 w' ∧ Up w w'
set_option maxRecDepth 100000 in
set_option maxHeartbeats 2000000 in
theorem begun_any (h : Hp) (P Q : Addr) (c d : Nat) (vt vo : Value) (us0 : List Tv) (w : World) (hm : Sits w h.m P Q c d) (hvt : Rc tvc w vt us0) (hr : ThsR w us0 h.th) (ho : Rc inc w vo h.od) (hF : HpF h) (ht : h.th[j]? = some t) :
    Calls Tryz.prog 25 #[.agg (hpc h P Q c d vt vo), .int .i64 j] w (Bg h j w) := by
  have hj : j < h.th.length := by
    rcases Nat.lt_or_ge j h.th.length with q | q
    · exact q
    · rw [List.getElem?_eq_none q] at ht; cases ht
  have hne : h.th ≠ [] := fun e => by rw [e] at hj; exact absurd hj (by simp)
  have HT := Lib.hid ht
  have HJ := Lib.hid hj
  have HF := Lib.hid hF
  generalize hW : w.alloc (.cells #[.int .i64 h.m.n, .slice (some P) h.m.n c, .slice (some Q) h.m.n d, .int .i64 h.fs, .int .i64 h.fa, .int .i64 h.fl, .int .i64 h.ts, .int .i64 h.ta, .int .i64 h.tl, .int .i64 h.sz, .int .i64 h.lg, vt, .int .i64 h.ph, .int .i64 h.sc, .int .i64 h.fp, vo, .int .i64 h.bk] 32) = W
  have UW : Up w W := by rw [← hW]; exact (Up.refl w).alloc _
  have bH : Blk W w.heap.size 32 #[.int .i64 h.m.n, .slice (some P) h.m.n c, .slice (some Q) h.m.n d, .int .i64 h.fs, .int .i64 h.fa, .int .i64 h.fl, .int .i64 h.ts, .int .i64 h.ta, .int .i64 h.tl, .int .i64 h.sz, .int .i64 h.lg, vt, .int .i64 h.ph, .int .i64 h.sc, .int .i64 h.fp, vo, .int .i64 h.bk] := by rw [← hW]; exact Blk.new _ _ _
  have HC := Lib.hid (copied_any h P Q c d vt vo us0 W (hm.up UW) (hvt.up UW) (hr.up UW) (ho.up UW) hF hne)
  have HW := Lib.hid hW
  have HUW := Lib.hid UW
  have bc := bH.cell
  have bl := bH.lt
  clear ht hj hF hm hvt hr ho hne hW UW bH
  unfold hpc at HC ⊢
  go_enter Tryz.func25, Tryz.ntmps25
  go_upto_region 1 with fail
  rw [HW.out]
  go_wp2_with (fail)
  refine HC.out.mono ?_
  rintro e w1 ⟨P1, Q1, c1, d1, T, cT, A, co, us, bs, rfl, g1, g2, g3, g4, g5, g6, g7, g8, g9, g10, g11, g12, g13⟩
  have HG := Lib.hid (And.intro g1 (And.intro g2 (And.intro g3 (And.intro g4 (And.intro g5 (And.intro g6 (And.intro g7 (And.intro g8 (And.intro g9 (And.intro g10 (And.intro g11 (And.intro g12 g13))))))))))))
  clear g1 g2 g3 g4 g5 g6 g7 g8 g9 g10 g11 g12 g13 bc bl
  unfold hpc
  go_wp2_with (fail)
  go_ret
  obtain ⟨g1, g2, g3, g4, g5, g6, g7, g8, g9, g10, g11, g12, g13⟩ := HG.out
  have key : ∀ V, V = w1.alloc (.cells (stc h P1 Q1 c1 d1 (.slice (some ⟨T, 0, none⟩) us.length cT) (.slice A h.od.length co) j ⟨T, j * 8, none⟩ oz ks0) 78) → ∃ S3, St W.heap.size w1.heap.size T S3 h j oz ks0 V := by
    rintro _ rfl
    exact st_of_cp g1 g2 g3 g4 g5 g6 g7 g8 g9 g10 g11 g12 ((Up.refl w1).alloc _) (Blk.new _ _ _) (Nat.le_refl _) HT.out
  obtain ⟨S3, hst⟩ := key _ rfl
  rw [g3] at hst
  exact ⟨W.heap.size, w1.heap.size, T, S3, rfl, HUW.out.size, (g13.alloc _).size, hst, (HUW.out.trans g13).alloc _⟩
end
end Go.Proofs.YtddoljfkbkbfjaaGreat.T
