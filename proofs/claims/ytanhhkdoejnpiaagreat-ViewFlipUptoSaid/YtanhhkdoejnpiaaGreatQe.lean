/- view.Put, where nothing is put: contracts. -/
import Derived.Test.YtanhhkdoejnpiaaGreatQc
import Derived.Test.YtanhhkdoejnpiaaGreatPc
namespace Go.Proofs.YtanhhkdoejnpiaaGreat.G
open Go.Joins Go.ChangeShapes Go.WideShapes Go.ChangeAt Go.RowKit Go.Deep Go.Shelf Go.Maps
set_option linter.unusedVariables false
set_option linter.unusedSimpArgs false

theorem LaPost.let_ {b : Bool} {s : Int} {ns : List Nd} {w : World} {e : Ending} {w' : World} (h : LaPost b s ns w e w') : ∃ o : Option Nat, e = .returned (.tuple #[.map o, .bool b]) ∧ Up w w' := by
  unfold LaPost at h
  cases b
  · rw [if_neg (by decide)] at h
    exact ⟨none, h.1, h.2⟩
  · rw [if_pos rfl] at h
    obtain ⟨M, n, D, e, _, _, _, u⟩ := h
    exact ⟨some M, e, u⟩
def lfit (ns : List Nd) (words : Int) : Bool := decide (ns.length = 0 ∨ (tot ns : Int) ≤ words)
set_option maxRecDepth 100000 in
set_option maxHeartbeats 4000000 in
theorem mput_bnd (v : Value) (g : Gr) (k s x : Int) (w : World) (hg : GrV w v g) (hR : Rg g) (hn9 : g.1.length ≤ 1000) (hW : I64 k) (hx : x = 1 ∨ x = 3) (hk : bnd k = x) :
    Calls Tryz.prog 13 #[v, .int .i64 k, .int .i64 s] w (PutNo x w) := by
  obtain ⟨A, c, B, d, rfl, m1, m2⟩ := hg.form
  have hns : Ns w (.slice A g.1.length c) g.1 := by
    obtain ⟨a, b, e, h1, h2⟩ := hg
    simp only [Value.agg.injEq, Array.mk.injEq, List.cons.injEq, and_true] at e
    rw [e.1]; exact h1
  have HN := Lib.hid (fun W => new_no k x hx hk W)
  have HL := Lib.hid (fun V (u : Up w V) => (laid_any (.slice A g.1.length c) g.1 k s V (hns.up u) (fun k h => hR.ndhd h) hn9 hW).mono fun _ _ h => h.let_)
  have hb : (x != 0) = true := by rcases hx with rfl | rfl <;> rfl
  generalize decide (g.1.length = 0 ∨ (tot g.1 : Int) ≤ k) = lf at *
  generalize g.1.length = n at *
  generalize g.2.length = m at *
  clear hg hx hk hR hns hn9 hW
  go_enter Tryz.func13, Tryz.ntmps13
  go_wp2_with (fail)
  refine (HN.out _).mono ?_
  rintro e w1 ⟨rfl, k1⟩
  have bR := (Blk.new' (w.alloc (.cells #[.slice A n c, .slice B m d] 30)) (g := w.heap.size + 1) (by simp) 25 mcz).up k1
  have bG := ((Blk.new w 30 #[.slice A n c, .slice B m d]).alloc (.cells mcz 25)).up k1
  have K1 := (((Up.refl w).alloc (.cells #[.slice A n c, .slice B m d] 30)).alloc (.cells mcz 25)).trans k1
  have gc := (bG.alloc (.cells mcz 25)).cell
  have gl := bG.lt
  have HK := Lib.hid (K1.alloc (.cells mcz 25))
  have HBR := Lib.hid (bR.alloc (.cells mcz 25))
  clear k1 bR bG K1
  go_wp2_with (fail)
  refine (HL.out _ HK.out).mono ?_
  rintro e w2 ⟨o, rfl, k2⟩
  have bR := HBR.out.up k2
  have K2 := HK.out.trans k2
  have R1c := bR.cell
  have R1f := bR.frozen
  have R1l := bR.lt
  clear k2 gc
  go_wp2
  refine bodyPost_ret (v := .tuple #[mem0, .slice none 0 0, .int .i64 x]) (by simp [results, Tryz.results13, go_sem, R1c, R1l, R1f, Nat.ne_of_lt R1l]) rfl ⟨rfl, ?_⟩
  exact (K2.set3 (by omega) _ _ _).alloc _
set_option maxRecDepth 100000 in
set_option maxHeartbeats 4000000 in
/-- A space that is none, or too few words. -/
theorem mput_no (v : Value) (g : Gr) (W : Nat) (s x : Int) (w : World) (hg : GrV w v g) (hR : Rg g) (hn9 : g.1.length ≤ 1000) (h16 : 16 ≤ W) (hW : W ≤ 4096) (hx : (s < 0 ∧ x = 1) ∨ (2 ≤ s ∧ x = 1) ∨ ((s = 0 ∨ s = 1) ∧ ¬ (tot g.1 ≤ W) ∧ x = 4)) :
    Calls Tryz.prog 13 #[v, .int .i64 W, .int .i64 s] w (PutNo x w) := by
  obtain ⟨A, c, B, d, rfl, m1, m2⟩ := hg.form
  have hns : Ns w (.slice A g.1.length c) g.1 := by
    obtain ⟨a, b, e, h1, h2⟩ := hg
    simp only [Value.agg.injEq, Array.mk.injEq, List.cons.injEq, and_true] at e
    rw [e.1]; exact h1
  have HN := Lib.hid (fun V => new_ok W h16 hW V)
  have HL := Lib.hid (fun V (u : Up w V) => (laid_any (.slice A g.1.length c) g.1 W s V (hns.up u) (fun k h => hR.ndhd h) hn9 (by unfold I64; omega)).mono fun _ _ h => h.let_)
  obtain ⟨lf, hlf⟩ : ∃ lf, decide (g.1.length = 0 ∨ (tot g.1 : Int) ≤ W) = lf := ⟨_, rfl⟩
  have hz : g.1.length = 0 → tot g.1 = 0 := fun e => by rw [List.eq_nil_of_length_eq_zero e]; rfl
  have hc : (decide (s < 0) = true ∧ x = 1) ∨ (decide (s < 0) = false ∧ decide (2 ≤ s) = true ∧ x = 1) ∨ (decide (s < 0) = false ∧ decide (2 ≤ s) = false ∧ lf = false ∧ x = 4) := by
    rcases hx with q | q | ⟨q1, q2, q3⟩
    · exact .inl ⟨decide_eq_true q.1, q.2⟩
    · exact .inr (.inl ⟨decide_eq_false (by omega), decide_eq_true q.1, q.2⟩)
    · refine .inr (.inr ⟨decide_eq_false (by omega), decide_eq_false (by omega), ?_, q3⟩)
      rw [← hlf]
      refine decide_eq_false (fun r => ?_)
      rcases r with r | r
      · have := hz r; omega
      · omega
  rw [hlf] at HL
  generalize g.1.length = n at *
  generalize g.2.length = m at *
  clear hg hx hR hns hn9 hlf hz
  rcases hc with ⟨hc, rfl⟩ | ⟨hc, hc2, rfl⟩ | ⟨hc, hc2, rfl, rfl⟩
  all_goals
    go_enter Tryz.func13, Tryz.ntmps13
    go_wp2_with (fail)
    refine (HN.out _).mono ?_
    rintro e w1 ⟨P, Q, cp, cq, rfl, hs1, k1⟩
    have bR := (Blk.new' (w.alloc (.cells #[.slice A n c, .slice B m d] 30)) (g := w.heap.size + 1) (by simp) 25 mcz).up k1
    have bG := ((Blk.new w 30 #[.slice A n c, .slice B m d]).alloc (.cells mcz 25)).up k1
    have K1 := (((Up.refl w).alloc (.cells #[.slice A n c, .slice B m d] 30)).alloc (.cells mcz 25)).trans k1
    have gc := (bG.alloc (.cells (mec W P Q cp cq) 25)).cell
    have gl := bG.lt
    have HK := Lib.hid (K1.alloc (.cells (mec W P Q cp cq) 25))
    have HBR := Lib.hid (bR.alloc (.cells (mec W P Q cp cq) 25))
    clear k1 bR bG K1 hs1
    go_wp2_with (fail)
    refine (HL.out _ HK.out).mono ?_
    rintro e w2 ⟨o, rfl, k2⟩
    have bR := HBR.out.up k2
    have K2 := HK.out.trans k2
    have R1c := bR.cell
    have R1f := bR.frozen
    have R1l := bR.lt
    clear k2 gc
    go_wp2
  · refine bodyPost_ret (v := .tuple #[mem0, .slice none 0 0, .int .i64 1]) (by simp [results, Tryz.results13, go_sem, R1c, R1l, R1f, Nat.ne_of_lt R1l]) rfl ⟨rfl, ?_⟩
    exact (K2.set3 (by omega) _ _ _).alloc _
  · refine bodyPost_ret (v := .tuple #[mem0, .slice none 0 0, .int .i64 1]) (by simp [results, Tryz.results13, go_sem, R1c, R1l, R1f, Nat.ne_of_lt R1l]) rfl ⟨rfl, ?_⟩
    exact (K2.set3 (by omega) _ _ _).alloc _
  · refine bodyPost_ret (v := .tuple #[mem0, .slice none 0 0, .int .i64 4]) (by simp [results, Tryz.results13, go_sem, R1c, R1l, R1f, Nat.ne_of_lt R1l]) rfl ⟨rfl, ?_⟩
    exact (K2.set3 (by omega) _ _ _).alloc _
end Go.Proofs.YtanhhkdoejnpiaaGreat.G
