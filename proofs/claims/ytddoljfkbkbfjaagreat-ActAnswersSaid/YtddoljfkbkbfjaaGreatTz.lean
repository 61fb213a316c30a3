/- A thread is answered (act.Answer): contract, where there is such a thread. -/
import Derived.Test.YtddoljfkbkbfjaaGreatTy
namespace Go.Proofs.YtddoljfkbkbfjaaGreat.T
open G
open Go.Joins Go.ChangeShapes Go.WideShapes Go.ChangeAt Go.RowKit Go.Deep Go.Shelf Go.Maps
set_option linter.unusedVariables false
set_option linter.unusedSimpArgs false
section
variable {h : Hp} {j : Nat} {w : World} {t : Th}
set_option maxRecDepth 100000 in
set_option maxHeartbeats 2000000 in
theorem answer_in (h : Hp) (P Q : Addr) (c d : Nat) (vt vo : Value) (us0 : List Tv) (w : World) (hm : Sits w h.m P Q c d) (hvt : Rc tvc w vt us0) (hr : ThsR w us0 h.th) (ho : Rc inc w vo h.od) (hF : HpF h) (a : An) (ht : h.th[j]? = some t) :
    Calls Tryz.prog 22 #[.agg (hpc h P Q c d vt vo), .int .i64 j, .agg #[.int .i64 a.1, .int .u64 a.2.1, .bool a.2.2]] w (OutH (ansH h j t a) w) := by
  have hj : j < h.th.length := by
    rcases Nat.lt_or_ge j h.th.length with q | q
    · exact q
    · rw [List.getElem?_eq_none q] at ht; cases ht
  obtain ⟨A, ct, rfl, hv1, hv2, -, -⟩ := id hvt
  have hul : us0.length = h.th.length := hr.1
  have HT := Lib.hid ht
  have HF := Lib.hid hF
  have HA := Lib.hid (has_any h P Q c d A us0.length ct vo (j : Int))
  have HB := Lib.hid (fun W (u : Up w W) => begun_any h P Q c d (.slice A us0.length ct) vo us0 W (hm.up u) (hvt.up u) (hr.up u) (ho.up u) hF ht)
  have HN := Lib.hid (decide_eq_true (show (0 ≤ (j : Int) ∧ (j : Int) < (us0.length : Int)) by omega))
  have HM := Lib.hid (show us0.length ≤ 9223372036854775807 by unfold maxLen at hv2; omega)
  generalize hW : w.alloc (.cells #[.int .i64 h.m.n, .slice (some P) h.m.n c, .slice (some Q) h.m.n d, .int .i64 h.fs, .int .i64 h.fa, .int .i64 h.fl, .int .i64 h.ts, .int .i64 h.ta, .int .i64 h.tl, .int .i64 h.sz, .int .i64 h.lg, (.slice A us0.length ct), .int .i64 h.ph, .int .i64 h.sc, .int .i64 h.fp, vo, .int .i64 h.bk] 32) = W0
  have bH : Blk W0 w.heap.size 32 #[.int .i64 h.m.n, .slice (some P) h.m.n c, .slice (some Q) h.m.n d, .int .i64 h.fs, .int .i64 h.fa, .int .i64 h.fl, .int .i64 h.ts, .int .i64 h.ta, .int .i64 h.tl, .int .i64 h.sz, .int .i64 h.lg, (.slice A us0.length ct), .int .i64 h.ph, .int .i64 h.sc, .int .i64 h.fp, vo, .int .i64 h.bk] := by rw [← hW]; exact Blk.new _ _ _
  have UW0 : Up w W0 := by rw [← hW]; exact (Up.refl w).alloc _
  have HW := Lib.hid hW
  clear hW ht hj hF hm hvt hr ho hv1 hv2 hul
  have hs0 : W0.heap.size = w.heap.size + 1 := by rw [← HW.out]; exact World.size_alloc _ _
  have bA : Blk ((W0.alloc (.cells #[.int .i64 a.1, .int .u64 a.2.1, .bool a.2.2] 56)).alloc (.cells #[.int .i64 0, .slice none 0 0, .slice none 0 0, .int .i64 0, .int .i64 0, .int .i64 0, .int .i64 0, .int .i64 0, .int .i64 0, .int .i64 0, .int .i64 0, .slice none 0 0, .int .i64 0, .int .i64 0, .int .i64 0, .slice none 0 0, .int .i64 0] 32)) (w.heap.size + 1) 56 #[.int .i64 a.1, .int .u64 a.2.1, .bool a.2.2] := (Blk.new' W0 hs0.symm _ _).alloc _
  have bZ : Blk ((W0.alloc (.cells #[.int .i64 a.1, .int .u64 a.2.1, .bool a.2.2] 56)).alloc (.cells #[.int .i64 0, .slice none 0 0, .slice none 0 0, .int .i64 0, .int .i64 0, .int .i64 0, .int .i64 0, .int .i64 0, .int .i64 0, .int .i64 0, .int .i64 0, .slice none 0 0, .int .i64 0, .int .i64 0, .int .i64 0, .slice none 0 0, .int .i64 0] 32)) (w.heap.size + 1 + 1) 32 #[.int .i64 0, .slice none 0 0, .slice none 0 0, .int .i64 0, .int .i64 0, .int .i64 0, .int .i64 0, .int .i64 0, .int .i64 0, .int .i64 0, .int .i64 0, .slice none 0 0, .int .i64 0, .int .i64 0, .int .i64 0, .slice none 0 0, .int .i64 0] := Blk.new' (W0.alloc _) (by rw [World.size_alloc, hs0]) _ _
  have bH3 : Blk ((W0.alloc (.cells #[.int .i64 a.1, .int .u64 a.2.1, .bool a.2.2] 56)).alloc (.cells #[.int .i64 0, .slice none 0 0, .slice none 0 0, .int .i64 0, .int .i64 0, .int .i64 0, .int .i64 0, .int .i64 0, .int .i64 0, .int .i64 0, .int .i64 0, .slice none 0 0, .int .i64 0, .int .i64 0, .int .i64 0, .slice none 0 0, .int .i64 0] 32)) w.heap.size 32 _ := (bH.alloc _).alloc _
  have U3 : Up w ((W0.alloc (.cells #[.int .i64 a.1, .int .u64 a.2.1, .bool a.2.2] 56)).alloc (.cells #[.int .i64 0, .slice none 0 0, .slice none 0 0, .int .i64 0, .int .i64 0, .int .i64 0, .int .i64 0, .int .i64 0, .int .i64 0, .int .i64 0, .int .i64 0, .slice none 0 0, .int .i64 0, .int .i64 0, .int .i64 0, .slice none 0 0, .int .i64 0] 32)) := (UW0.alloc _).alloc _
  generalize hW3 : ((W0.alloc (.cells #[.int .i64 a.1, .int .u64 a.2.1, .bool a.2.2] 56)).alloc (.cells #[.int .i64 0, .slice none 0 0, .slice none 0 0, .int .i64 0, .int .i64 0, .int .i64 0, .int .i64 0, .int .i64 0, .int .i64 0, .int .i64 0, .int .i64 0, .slice none 0 0, .int .i64 0, .int .i64 0, .int .i64 0, .slice none 0 0, .int .i64 0] 32)) = W3 at *
  have HW3 := Lib.hid hW3
  have HBA := Lib.hid bA
  have HBZ := Lib.hid bZ
  have HBH := Lib.hid bH3
  have HU3 := Lib.hid U3
  have bc := bH3.cell
  have bl := bH3.lt
  clear hW3 bH UW0 hs0 bA bZ bH3 U3
  unfold hpc at HA HB ⊢
  go_enter Tryz.func22, Tryz.ntmps22
  go_upto_region 1 with fail
  rw [HW.out]
  rw [HW3.out]
  go_wp2_with (fail)
  refine (HA.out _ HM.out).mono ?_
  rintro e w1 ⟨he, hu⟩
  rw [HN.out] at he
  subst he
  have HBH1 := Lib.hid (HBH.out.up hu)
  have HBA1 := Lib.hid (HBA.out.up hu)
  have HBZ1 := Lib.hid (HBZ.out.up hu)
  have HU1 := Lib.hid (HU3.out.trans hu)
  have bc := HBH1.out.cell
  have bl := HBH1.out.lt
  clear hu
  go_wp2_with (fail)
  refine (HB.out w1 HU1.out).mono ?_
  rintro e w2 ⟨b, D, T, S3, rfl, hb1, hb2, hst, hu⟩
  have HBA2 := Lib.hid (HBA1.out.up hu)
  have HBZ2 := Lib.hid (HBZ1.out.up hu)
  have HU2 := Lib.hid (HU1.out.trans hu)
  have HB1 := Lib.hid hb1
  have HAN := Lib.hid (answer_st hst HT.out a (by have := (HF.out.th t (List.mem_of_getElem? HT.out)).dn; omega) (by have := HF.out.od; omega) hb2)
  have HST := Lib.hid hst
  have bc2 := HBA2.out.cell
  have bl2 := HBA2.out.lt
  clear hu hb1 hb2 hst bc bl
  go_wp2_with (fail)
  refine HAN.out.mono ?_
  rintro e w3 ⟨⟨v, rfl⟩, hk, P3, Q3, c3, d3, vt3, vo3, us3, j3, q3, o3, s3, hD3, hs3, hr3, hh3, ho3, hi3⟩
  generalize hH : ansH h j t a = H at *
  obtain ⟨A3, k3, rfl, -⟩ := id hr3
  obtain ⟨A4, k4, rfl, -⟩ := id ho3
  have hge := HST.out.ge
  have hzl := HBZ1.out.lt
  have hgb : w.heap.size + 1 + 1 < b := by have := HB1.out; omega
  have HBZ3 := Lib.hid (HBZ2.out.kp hk (fun q => by have := hge _ q; omega))
  have HU4 := Lib.hid (HU2.out.kp hk (fun x hx => by have := hge x hx; omega))
  have HGB := Lib.hid hgb
  have HFI := Lib.hid (And.intro hs3 (And.intro hr3 (And.intro hh3 (And.intro ho3 hi3))))
  have HD3 := Lib.hid hD3
  clear hk hge hzl hgb hs3 hr3 hh3 ho3 hi3 hD3 bc2 bl2
  go_upto_region 5 with fail
  refine answer5_wp HD3.out HBZ3.out _ _ _ _ _ _ _ _ _ _ _ _ _ _ _ _ _ _ _ _ _ _ _ (Lib.hid ?_)
  intro y19 y20 y21 y22 w5 hb5 hk5
  have HB5 := Lib.hid hb5
  have HK5 := Lib.hid hk5
  clear hb5 hk5 HD3 HBA2 HBA1 HBA HBH1 HBH HW HW3 HAN HST
  go_wp2_with (fail)
  refine bodyPost_ret (ret_heap rfl _ _ _ _ _ _ _ _ _ _ _ _ _ _ _ _ _ _ _ _ rfl HB5.out) rfl ?_
  obtain ⟨hs3, hr3, hh3, ho3, hi3⟩ := HFI.out
  exact ⟨_, rfl, hpR_box HBZ3.out HK5.out hs3 hr3 hh3 ho3 hi3 HGB.out, HU4.out.kp HK5.out (by simp; omega)⟩
set_option maxRecDepth 100000 in
set_option maxHeartbeats 2000000 in
theorem answer_no (h : Hp) (P Q : Addr) (c d : Nat) (vt vo : Value) (us0 : List Tv) (w : World) (hm : Sits w h.m P Q c d) (hvt : Rc tvc w vt us0) (hr : ThsR w us0 h.th) (ho : Rc inc w vo h.od) (a : An) (th : Int) (hno : ¬ (0 ≤ th ∧ th < h.th.length)) :
    Calls Tryz.prog 22 #[.agg (hpc h P Q c d vt vo), .int .i64 th, .agg #[.int .i64 a.1, .int .u64 a.2.1, .bool a.2.2]] w (OutH h w) := by
  have hul : us0.length = h.th.length := hr.1
  have HR := Lib.hid (show ∀ w', Up w w' → HpR w' (.agg (hpc h P Q c d vt vo)) h from fun w' u => ⟨P, Q, c, d, vt, vo, us0, rfl, hm.up u, hvt.up u, hr.up u, ho.up u⟩)
  obtain ⟨A, ct, rfl, hv1, hv2, -, -⟩ := id hvt
  obtain ⟨B, co, rfl, -⟩ := id ho
  have HA := Lib.hid (has_any h P Q c d A us0.length ct (.slice B h.od.length co) th)
  have HN := Lib.hid (decide_eq_false (show ¬ (0 ≤ th ∧ th < (us0.length : Int)) by omega))
  have HM := Lib.hid (show us0.length ≤ 9223372036854775807 by unfold maxLen at hv2; omega)
  clear hno hm hvt hr ho hv1 hv2 hul
  generalize hW : w.alloc (.cells #[.int .i64 h.m.n, .slice (some P) h.m.n c, .slice (some Q) h.m.n d, .int .i64 h.fs, .int .i64 h.fa, .int .i64 h.fl, .int .i64 h.ts, .int .i64 h.ta, .int .i64 h.tl, .int .i64 h.sz, .int .i64 h.lg, (.slice A us0.length ct), .int .i64 h.ph, .int .i64 h.sc, .int .i64 h.fp, (.slice B h.od.length co), .int .i64 h.bk] 32) = W0
  have bH : Blk W0 w.heap.size 32 (hpc h P Q c d (.slice A us0.length ct) (.slice B h.od.length co)) := by rw [← hW]; exact Blk.new _ _ _
  have UW0 : Up w W0 := by rw [← hW]; exact (Up.refl w).alloc _
  have HW := Lib.hid hW
  clear hW
  have hs0 : W0.heap.size = w.heap.size + 1 := by rw [← HW.out]; exact World.size_alloc _ _
  have bZ : Blk ((W0.alloc (.cells #[.int .i64 a.1, .int .u64 a.2.1, .bool a.2.2] 56)).alloc (.cells #[.int .i64 0, .slice none 0 0, .slice none 0 0, .int .i64 0, .int .i64 0, .int .i64 0, .int .i64 0, .int .i64 0, .int .i64 0, .int .i64 0, .int .i64 0, .slice none 0 0, .int .i64 0, .int .i64 0, .int .i64 0, .slice none 0 0, .int .i64 0] 32)) (w.heap.size + 1 + 1) 32 hz := Blk.new' (W0.alloc _) (by rw [World.size_alloc, hs0]) _ _
  have bH3 : Blk ((W0.alloc (.cells #[.int .i64 a.1, .int .u64 a.2.1, .bool a.2.2] 56)).alloc (.cells #[.int .i64 0, .slice none 0 0, .slice none 0 0, .int .i64 0, .int .i64 0, .int .i64 0, .int .i64 0, .int .i64 0, .int .i64 0, .int .i64 0, .int .i64 0, .slice none 0 0, .int .i64 0, .int .i64 0, .int .i64 0, .slice none 0 0, .int .i64 0] 32)) w.heap.size 32 _ := (bH.alloc _).alloc _
  have U3 : Up w ((W0.alloc (.cells #[.int .i64 a.1, .int .u64 a.2.1, .bool a.2.2] 56)).alloc (.cells #[.int .i64 0, .slice none 0 0, .slice none 0 0, .int .i64 0, .int .i64 0, .int .i64 0, .int .i64 0, .int .i64 0, .int .i64 0, .int .i64 0, .int .i64 0, .slice none 0 0, .int .i64 0, .int .i64 0, .int .i64 0, .slice none 0 0, .int .i64 0] 32)) := (UW0.alloc _).alloc _
  generalize hW3 : ((W0.alloc (.cells #[.int .i64 a.1, .int .u64 a.2.1, .bool a.2.2] 56)).alloc (.cells #[.int .i64 0, .slice none 0 0, .slice none 0 0, .int .i64 0, .int .i64 0, .int .i64 0, .int .i64 0, .int .i64 0, .int .i64 0, .int .i64 0, .int .i64 0, .slice none 0 0, .int .i64 0, .int .i64 0, .int .i64 0, .slice none 0 0, .int .i64 0] 32)) = W3 at *
  have HW3 := Lib.hid hW3
  have HBZ := Lib.hid bZ
  have HBH := Lib.hid bH3
  have HU3 := Lib.hid U3
  have bc := bH3.cell
  have bl := bH3.lt
  clear hW3 bH UW0 hs0 bZ bH3 U3
  unfold hpc at HA bc ⊢
  go_enter Tryz.func22, Tryz.ntmps22
  go_upto_region 1 with fail
  rw [HW.out]
  rw [HW3.out]
  go_wp2_with (fail)
  refine (HA.out _ HM.out).mono ?_
  rintro e w1 ⟨he, hu⟩
  rw [HN.out] at he
  subst he
  have HBH1 := Lib.hid (HBH.out.up hu)
  have HBZ1 := Lib.hid (HBZ.out.up hu)
  have HU1 := Lib.hid (HU3.out.trans hu)
  clear hu bc bl
  go_upto_region 2 with fail
  refine answer2_wp HBH1.out HBZ1.out _ _ _ _ _ _ _ _ _ _ _ _ _ _ _ _ _ _ _ _ _ _ _ (Lib.hid ?_)
  intro y12 w5 hb5 hk5
  have HB5 := Lib.hid hb5
  have HK5 := Lib.hid hk5
  clear hb5 hk5
  go_wp2_with (fail)
  refine bodyPost_ret (ret_heap rfl _ _ _ _ _ _ _ _ _ _ _ _ _ _ _ _ _ _ _ _ rfl HB5.out) rfl ?_
  have U5 := HU1.out.kp HK5.out (by simp; omega)
  exact ⟨_, rfl, HR.out _ U5, U5⟩
theorem answer_any (h : Hp) (P Q : Addr) (c d : Nat) (vt vo : Value) (us0 : List Tv) (w : World) (hm : Sits w h.m P Q c d) (hvt : Rc tvc w vt us0) (hr : ThsR w us0 h.th) (ho : Rc inc w vo h.od) (hF : HpF h) (a : An) (th : Int) :
    Calls Tryz.prog 22 #[.agg (hpc h P Q c d vt vo), .int .i64 th, .agg #[.int .i64 a.1, .int .u64 a.2.1, .bool a.2.2]] w (OutH (answered h th a) w) := by
  unfold answered
  by_cases hin : 0 ≤ th ∧ th < h.th.length
  · rw [if_pos hin]
    obtain ⟨j, rfl⟩ : ∃ j : Nat, th = j := ⟨th.toNat, by omega⟩
    have hj : j < h.th.length := by omega
    rw [Int.toNat_natCast, List.getElem?_eq_getElem hj]
    exact answer_in h P Q c d vt vo us0 w hm hvt hr ho hF a (List.getElem?_eq_getElem hj)
  · rw [if_neg hin]
    exact answer_no h P Q c d vt vo us0 w hm hvt hr ho a th hin
end
end Go.Proofs.YtddoljfkbkbfjaaGreat.T
