/- The statement ArenaBack is proved for every input, from contracts of the functions that it calls; no condition is added. -/
import Derived.Test.YtoneandmbnfcoaaPur
namespace Go.Proofs.Ytoneandmbnfcoaa.LArenaBack
open Go.Joins Go.ChangeShapes Go.WideShapes Go.ChangeAt Go.RowKit Go.Deep
set_option linter.unusedVariables false
set_option linter.unusedSimpArgs false

set_option maxHeartbeats 2000000 in
theorem walk_no (NM : Int) (AM0 AM1 : Option Addr) (nM0 nM1 cM0 cM1 : Nat) (xsM ysM : List Int) (a : Int) (v : Int) (b : Int) (hfew : few NM nM0 nM1 = false) (w : World) :
    Calls Try.prog 5 #[.agg #[.int .i64 NM, .slice AM0 nM0 cM0, .slice AM1 nM1 cM1, .int .u64 a, .int .u64 v, .int .u64 b]] w fun e w' => e = .returned (.bool true) ∧ Up w w' := by
  have hf := fun w => few_any NM AM0 AM1 nM0 nM1 cM0 cM1 w
  rw [hfew] at hf
  have hf := Lib.hid hf
  clear hfew
  go_enter Try.func5, Try.ntmps5
  go_wp2_with (fail)
  refine (shown_any _).mono ?_
  rintro e w1 ⟨rfl, h1⟩
  have D1 := (Blk.new _ 25 _).up h1
  simp at D1
  have U1 : Up w w1 := (((Up.refl w).alloc _).alloc _).trans h1
  clear h1
  have D1c := D1.cell
  have D1l := D1.lt
  have D1f := D1.frozen
  go_wp2_with (fail)
  refine (hf.out _).mono ?_
  rintro e w2 ⟨rfl, h2⟩
  have D2 := D1.up h2
  have U2 : Up w w2 := U1.trans h2
  clear h2 D1 D1c D1f U1
  have D2c := D2.cell
  have D2l := D2.lt
  have D2f := D2.frozen
  go_wp2
  go_ret
  exact ⟨rfl, U2⟩

set_option maxHeartbeats 4000000 in
theorem walk_far (m : Me) (P Q : Addr) (c d : Nat) (a : Int) (v : Int) (b : Int) (w : World) (hm : Sits w m P Q c d) (hn : m.n ≤ 200) (ha : U64 a) (hv : U64 v) (hb : U64 b) (ht : ¬ m.there a) :
    Calls Try.prog 5 #[.agg #[.int .i64 m.n, .slice (some P) m.n c, .slice (some Q) m.n d, .int .u64 a, .int .u64 v, .int .u64 b]] w fun e w' => e = .returned (.bool true) ∧ Up w w' := by
  have hfew : few m.n m.n m.n = true := by unfold few rt; simp; have := hm.1.1; omega
  have hf := fun w => few_any m.n (some P) (some Q) m.n m.n c d w
  rw [hfew] at hf
  have hf := Lib.hid hf
  have hok := Lib.hid hm.1
  have HM := Lib.hid hm
  clear hfew hm
  have hst := Lib.hid (fun (W : World) (hS : Sits W m P Q c d) => show Calls Try.prog 15 #[.agg #[.int .i64 m.n, .slice (some P) m.n c, .slice (some Q) m.n d], .int .u64 a, .int .u64 v] W (Gives1 W m (.int .i64 2)) from by
    have h := store_any m a v P Q c d W hS ha
    rw [show m.st a v = m from if_neg ht, show m.lde a = 2 from if_neg ht] at h
    exact h)
  clear ht
  go_enter Try.func5, Try.ntmps5
  go_wp2_with (fail)
  refine (shown_any _).mono ?_
  rintro e w1 ⟨rfl, h1⟩
  have D1 := (Blk.new _ 25 _).up h1
  simp at D1
  have U1 : Up w w1 := (((Up.refl w).alloc _).alloc _).trans h1
  clear h1
  have D1c := D1.cell
  have D1l := D1.lt
  have D1f := D1.frozen
  go_wp2_with (fail)
  refine (hf.out _).mono ?_
  rintro e w2 ⟨rfl, h2⟩
  have D2 := D1.up h2
  have U2 : Up w w2 := U1.trans h2
  clear h2 D1 D1c D1f U1
  have D2c := D2.cell
  have D2l := D2.lt
  have D2f := D2.frozen
  go_wp2_with (fail)
  refine (hst.out _ (HM.out.up U2)).mono ?_
  rintro e w3 ⟨PK, QK, cK, dK, rfl, sK3, h3⟩
  have D3 := D2.up h3
  have U3 : Up w w3 := U2.trans h3
  clear h3 D2 D2c D2f U2
  have D3c := D3.cell
  have D3l := D3.lt
  have D3f := D3.frozen
  go_wp2
  go_ret
  exact ⟨rfl, (U3.alloc _)⟩

set_option maxHeartbeats 4000000 in
theorem walk_same (m : Me) (P Q : Addr) (c d : Nat) (a : Int) (v : Int) (w : World) (hm : Sits w m P Q c d) (hn : m.n ≤ 200) (ha : U64 a) (hv : U64 v) (ht : m.there a) :
    Calls Try.prog 5 #[.agg #[.int .i64 m.n, .slice (some P) m.n c, .slice (some Q) m.n d, .int .u64 a, .int .u64 v, .int .u64 a]] w fun e w' => e = .returned (.bool true) ∧ Up w w' := by
  have hfew : few m.n m.n m.n = true := by unfold few rt; simp; have := hm.1.1; omega
  have hf := fun w => few_any m.n (some P) (some Q) m.n m.n c d w
  rw [hfew] at hf
  have hf := Lib.hid hf
  have hok := Lib.hid hm.1
  have HM := Lib.hid hm
  clear hfew hm
  have hst := Lib.hid (fun (W : World) (hS : Sits W m P Q c d) => show Calls Try.prog 15 #[.agg #[.int .i64 m.n, .slice (some P) m.n c, .slice (some Q) m.n d], .int .u64 a, .int .u64 v] W (Gives1 W (m.st a v) (.int .i64 0)) from by
    have h := store_any m a v P Q c d W hS ha
    rw [show m.lde a = 0 from if_pos ht] at h
    exact h)
  have hl1 := Lib.hid (fun (W : World) (P Q : Addr) (c d : Nat) (hS : Sits W (m.st a v) P Q c d) => show Calls Try.prog 13 #[.agg #[.int .i64 (m.st a v).n, .slice (some P) (m.st a v).n c, .slice (some Q) (m.st a v).n d], .int .u64 a] W fun e w' => e = .returned (.tuple #[.int .u64 v, .int .i64 0]) ∧ Up W w' from by
    have h := load_any (m.st a v) a P Q c d W hS ha
    rw [st_ld hok.out ht, lde_n (Me.st_n m a v), show m.lde a = 0 from if_pos ht] at h
    exact h)
  have hl2 := Lib.hid (fun (W : World) (hS : Sits W m P Q c d) => load_any m a P Q c d W hS ha)
  have hl3 := Lib.hid (fun (W : World) (P Q : Addr) (c d : Nat) (hS : Sits W (m.st a v) P Q c d) => show Calls Try.prog 13 #[.agg #[.int .i64 (m.st a v).n, .slice (some P) (m.st a v).n c, .slice (some Q) (m.st a v).n d], .int .u64 a] W fun e w' => e = .returned (.tuple #[.int .u64 v, .int .i64 (m.lde a)]) ∧ Up W w' from by
    have h := load_any (m.st a v) a P Q c d W hS ha
    rw [st_ld hok.out ht, lde_n (Me.st_n m a v)] at h
    exact h)
  generalize m.st a v = K at hst hl1 hl3
  clear ht
  go_enter Try.func5, Try.ntmps5
  go_wp2_with (fail)
  refine (shown_any _).mono ?_
  rintro e w1 ⟨rfl, h1⟩
  have D1 := (Blk.new _ 25 _).up h1
  simp at D1
  have U1 : Up w w1 := (((Up.refl w).alloc _).alloc _).trans h1
  clear h1
  have D1c := D1.cell
  have D1l := D1.lt
  have D1f := D1.frozen
  go_wp2_with (fail)
  refine (hf.out _).mono ?_
  rintro e w2 ⟨rfl, h2⟩
  have D2 := D1.up h2
  have U2 : Up w w2 := U1.trans h2
  clear h2 D1 D1c D1f U1
  have D2c := D2.cell
  have D2l := D2.lt
  have D2f := D2.frozen
  go_wp2_with (fail)
  refine (hst.out _ (HM.out.up U2)).mono ?_
  rintro e w3 ⟨PK, QK, cK, dK, rfl, sK3, h3⟩
  have D3 := D2.up h3
  have U3 : Up w w3 := U2.trans h3
  clear h3 D2 D2c D2f U2
  have D3c := D3.cell
  have D3l := D3.lt
  have D3f := D3.frozen
  go_wp2_with (fail)
  refine (hl1.out _ _ _ _ _ (sK3.up ((Up.refl _).alloc _))).mono ?_
  rintro e w4 ⟨rfl, h4⟩
  have D4 := (D3.alloc _).up h4
  have K4 := (Blk.new w3 25 _).up h4
  have nKD4 := Nat.ne_of_gt D3l
  have nDK4 := Nat.ne_of_lt D3l
  have U4 : Up w w4 := (U3.alloc _).trans h4
  have sK4 := (sK3.up ((Up.refl _).alloc _)).up h4
  clear h4 D3 D3c D3f U3 sK3
  have D4c := D4.cell
  have D4l := D4.lt
  have D4f := D4.frozen
  have K4c := K4.cell
  have K4l := K4.lt
  have K4f := K4.frozen
  go_wp2_with (fail)
  refine (hl2.out _ (HM.out.up U4)).mono ?_
  rintro e w5 ⟨rfl, h5⟩
  have D5 := D4.up h5
  have K5 := K4.up h5
  have U5 : Up w w5 := U4.trans h5
  have sK5 := sK4.up h5
  clear h5 D4 D4c D4f K4 K4c K4f U4 sK4
  have D5c := D5.cell
  have D5l := D5.lt
  have D5f := D5.frozen
  have K5c := K5.cell
  have K5l := K5.lt
  have K5f := K5.frozen
  go_wp2_with (fail)
  refine (hl3.out _ _ _ _ _ sK5).mono ?_
  rintro e w6 ⟨rfl, h6⟩
  have D6 := D5.up h6
  have K6 := K5.up h6
  have U6 : Up w w6 := U5.trans h6
  have sK6 := sK5.up h6
  clear h6 D5 D5c D5f K5 K5c K5f U5 sK5
  have D6c := D6.cell
  have D6l := D6.lt
  have D6f := D6.frozen
  have K6c := K6.cell
  have K6l := K6.lt
  have K6f := K6.frozen
  go_wp2
  go_ret
  exact ⟨rfl, U6⟩

set_option maxHeartbeats 4000000 in
theorem walk_other (m : Me) (P Q : Addr) (c d : Nat) (a : Int) (v : Int) (b : Int) (w : World) (hm : Sits w m P Q c d) (hn : m.n ≤ 200) (ha : U64 a) (hv : U64 v) (hb : U64 b) (ht : m.there a) (hne : a ≠ b) :
    Calls Try.prog 5 #[.agg #[.int .i64 m.n, .slice (some P) m.n c, .slice (some Q) m.n d, .int .u64 a, .int .u64 v, .int .u64 b]] w fun e w' => e = .returned (.bool true) ∧ Up w w' := by
  have hfew : few m.n m.n m.n = true := by unfold few rt; simp; have := hm.1.1; omega
  have hf := fun w => few_any m.n (some P) (some Q) m.n m.n c d w
  rw [hfew] at hf
  have hf := Lib.hid hf
  have hok := Lib.hid hm.1
  have HM := Lib.hid hm
  clear hfew hm
  have hst := Lib.hid (fun (W : World) (hS : Sits W m P Q c d) => show Calls Try.prog 15 #[.agg #[.int .i64 m.n, .slice (some P) m.n c, .slice (some Q) m.n d], .int .u64 a, .int .u64 v] W (Gives1 W (m.st a v) (.int .i64 0)) from by
    have h := store_any m a v P Q c d W hS ha
    rw [show m.lde a = 0 from if_pos ht] at h
    exact h)
  have hl1 := Lib.hid (fun (W : World) (P Q : Addr) (c d : Nat) (hS : Sits W (m.st a v) P Q c d) => show Calls Try.prog 13 #[.agg #[.int .i64 (m.st a v).n, .slice (some P) (m.st a v).n c, .slice (some Q) (m.st a v).n d], .int .u64 a] W fun e w' => e = .returned (.tuple #[.int .u64 v, .int .i64 0]) ∧ Up W w' from by
    have h := load_any (m.st a v) a P Q c d W hS ha
    rw [st_ld hok.out ht, lde_n (Me.st_n m a v), show m.lde a = 0 from if_pos ht] at h
    exact h)
  have hl2 := Lib.hid (fun (W : World) (hS : Sits W m P Q c d) => load_any m b P Q c d W hS hb)
  have hl3 := Lib.hid (fun (W : World) (P Q : Addr) (c d : Nat) (hS : Sits W (m.st a v) P Q c d) => show Calls Try.prog 13 #[.agg #[.int .i64 (m.st a v).n, .slice (some P) (m.st a v).n c, .slice (some Q) (m.st a v).n d], .int .u64 b] W fun e w' => e = .returned (.tuple #[.int .u64 (m.ld b), .int .i64 (m.lde b)]) ∧ Up W w' from by
    have h := load_any (m.st a v) b P Q c d W hS hb
    rw [st_other hne, lde_n (Me.st_n m a v)] at h
    exact h)
  have hab : (a == b) = false := beq_eq_false_iff_ne.mpr hne
  clear hne
  generalize m.ld b = u at hl2 hl3
  generalize m.lde b = z at hl2 hl3
  generalize m.st a v = K at hst hl1 hl3
  clear ht
  go_enter Try.func5, Try.ntmps5
  go_wp2_with (fail)
  refine (shown_any _).mono ?_
  rintro e w1 ⟨rfl, h1⟩
  have D1 := (Blk.new _ 25 _).up h1
  simp at D1
  have U1 : Up w w1 := (((Up.refl w).alloc _).alloc _).trans h1
  clear h1
  have D1c := D1.cell
  have D1l := D1.lt
  have D1f := D1.frozen
  go_wp2_with (fail)
  refine (hf.out _).mono ?_
  rintro e w2 ⟨rfl, h2⟩
  have D2 := D1.up h2
  have U2 : Up w w2 := U1.trans h2
  clear h2 D1 D1c D1f U1
  have D2c := D2.cell
  have D2l := D2.lt
  have D2f := D2.frozen
  go_wp2_with (fail)
  refine (hst.out _ (HM.out.up U2)).mono ?_
  rintro e w3 ⟨PK, QK, cK, dK, rfl, sK3, h3⟩
  have D3 := D2.up h3
  have U3 : Up w w3 := U2.trans h3
  clear h3 D2 D2c D2f U2
  have D3c := D3.cell
  have D3l := D3.lt
  have D3f := D3.frozen
  go_wp2_with (fail)
  refine (hl1.out _ _ _ _ _ (sK3.up ((Up.refl _).alloc _))).mono ?_
  rintro e w4 ⟨rfl, h4⟩
  have D4 := (D3.alloc _).up h4
  have K4 := (Blk.new w3 25 _).up h4
  have nKD4 := Nat.ne_of_gt D3l
  have nDK4 := Nat.ne_of_lt D3l
  have U4 : Up w w4 := (U3.alloc _).trans h4
  have sK4 := (sK3.up ((Up.refl _).alloc _)).up h4
  clear h4 D3 D3c D3f U3 sK3
  have D4c := D4.cell
  have D4l := D4.lt
  have D4f := D4.frozen
  have K4c := K4.cell
  have K4l := K4.lt
  have K4f := K4.frozen
  go_wp2_with (fail)
  refine (hl2.out _ (HM.out.up U4)).mono ?_
  rintro e w5 ⟨rfl, h5⟩
  have D5 := D4.up h5
  have K5 := K4.up h5
  have U5 : Up w w5 := U4.trans h5
  have sK5 := sK4.up h5
  clear h5 D4 D4c D4f K4 K4c K4f U4 sK4
  have D5c := D5.cell
  have D5l := D5.lt
  have D5f := D5.frozen
  have K5c := K5.cell
  have K5l := K5.lt
  have K5f := K5.frozen
  go_wp2_with (fail)
  refine (hl3.out _ _ _ _ _ sK5).mono ?_
  rintro e w6 ⟨rfl, h6⟩
  have D6 := D5.up h6
  have K6 := K5.up h6
  have U6 : Up w w6 := U5.trans h6
  have sK6 := sK5.up h6
  clear h6 D5 D5c D5f K5 K5c K5f U5 sK5
  have D6c := D6.cell
  have D6l := D6.lt
  have D6f := D6.frozen
  have K6c := K6.cell
  have K6l := K6.lt
  have K6f := K6.frozen
  go_wp2
  go_ret
  exact ⟨rfl, U6⟩

theorem walk (NM : Int) (AM0 AM1 : Option Addr) (nM0 nM1 cM0 cM1 : Nat) (xsM ysM : List Int) (a : Int) (v : Int) (b : Int) (w : World) (hxM : SlOk w AM0 nM0 cM0 xsM) (hyM : SlOk w AM1 nM1 cM1 ysM) (ha : U64 a) (hv : U64 v) (hb : U64 b) :
    Calls Try.prog 5 #[.agg #[.int .i64 NM, .slice AM0 nM0 cM0, .slice AM1 nM1 cM1, .int .u64 a, .int .u64 v, .int .u64 b]] w fun e w' => e = .returned (.bool true) ∧ Up w w' := by
  cases hfew : few NM nM0 nM1
  · exact walk_no NM AM0 AM1 nM0 nM1 cM0 cM1 xsM ysM a v b hfew w
  · obtain ⟨rfl, rfl, h16, h200⟩ := few_is hfew
    obtain ⟨P, Q, rfl, rfl, hm⟩ := sits_of hxM hyM h16 (by omega)
    by_cases ht : (⟨nM0, xsM, ysM⟩ : Me).there a
    · by_cases hne : a = b
      · subst hne
        exact walk_same ⟨nM0, xsM, ysM⟩ P Q cM0 cM1 a v w hm h200 ha hv ht
      · exact walk_other ⟨nM0, xsM, ysM⟩ P Q cM0 cM1 a v b w hm h200 ha hv hb ht hne
    · exact walk_far ⟨nM0, xsM, ysM⟩ P Q cM0 cM1 a v b w hm h200 ha hv hb ht
theorem cells : Try.prog.cellsOf 53 = 6 := by kernel_rfl
theorem opened {H : Type} {enc : TypeId × Value → H} {w : World} {r : Reach} {b0 : Nat} {vl_ : Value} {d : DataW H} {p : List MemPlace} (hvl_ : Value.okWide Try.prog w r b0 53 vl_) (h_ : DataW.Trod enc Try.prog w 0 (fun _ => true) true 53 vl_ d p) :
    ∃ (NM : Int) (AM0 AM1 : Option Addr) (nM0 nM1 cM0 cM1 : Nat) (xsM ysM : List Int) (a : Int) (v : Int) (b : Int), vl_ = .agg #[.int .i64 NM, .slice AM0 nM0 cM0, .slice AM1 nM1 cM1, .int .u64 a, .int .u64 v, .int .u64 b] ∧ I64 NM ∧ SlOk w AM0 nM0 cM0 xsM ∧ SlOk w AM1 nM1 cM1 ysM ∧ U64 a ∧ U64 v ∧ U64 b := by
  obtain ⟨⟨l⟩, rfl, hsz⟩ := okWide_struct Try.underlying53 hvl_
  match l, hsz.trans cells with
  | [z0_, z1_, z2_, z3_, z4_, z5_], _ =>
    obtain ⟨fuel, hf_⟩ := h_
    obtain ⟨ys_, n_, _, _, _, hlen_, hg_⟩ := DataW.trod_struct Try.underlying53 hf_
    have f0_ := hg_ 0 _ rfl
    have f1_ := hg_ 1 _ rfl
    have f2_ := hg_ 2 _ rfl
    have f3_ := hg_ 3 _ rfl
    match ys_, hlen_ with
    | [y0_, y1_, y2_, y3_], _ =>
      change DataW.trod enc Try.prog w 0 (fun _ => true) true n_ 25 (([z0_, z1_, z2_, z3_, z4_, z5_].drop 0).take (Try.prog.cellsOf 25)) = some y0_ at f0_
      rw [cells_mem] at f0_
      change DataW.trod enc Try.prog w 0 (fun _ => true) true n_ 26 (([z0_, z1_, z2_, z3_, z4_, z5_].drop 3).take (Try.prog.cellsOf 26)) = some y1_ at f1_
      rw [cells_u64] at f1_
      change DataW.trod enc Try.prog w 0 (fun _ => true) true n_ 26 (([z0_, z1_, z2_, z3_, z4_, z5_].drop 4).take (Try.prog.cellsOf 26)) = some y2_ at f2_
      rw [cells_u64] at f2_
      change DataW.trod enc Try.prog w 0 (fun _ => true) true n_ 26 (([z0_, z1_, z2_, z3_, z4_, z5_].drop 5).take (Try.prog.cellsOf 26)) = some y3_ at f3_
      rw [cells_u64] at f3_
      obtain ⟨NM, AM0, AM1, nM0, nM1, cM0, cM1, xsM, ysM, rfl, rfl, rfl, hNM, hxM, hyM⟩ := mem_open (v0 := z0_) (v1 := z1_) (v2 := z2_) f0_
      obtain ⟨a, rfl, ha⟩ := u64_open (v := z3_) f1_
      obtain ⟨v, rfl, hv⟩ := u64_open (v := z4_) f2_
      obtain ⟨b, rfl, hb⟩ := u64_open (v := z5_) f3_
      exact ⟨NM, AM0, AM1, nM0, nM1, cM0, cM1, xsM, ysM, a, v, b, rfl, hNM, hxM, hyM, ha, hv, hb⟩

theorem own : ownKnob Try.prog.godebug = none := by kernel_rfl
set_option maxRecDepth 100000 in
theorem lifted (os : Os) (started : os.Started) (H : Type) (enc : TypeId × Value → H) :
    ReturnsInHanded {} Try.checked os 5 .any (Rows.arenaBackSpec.pre6 enc Try.prog Try.f5 Rows.arenaBackRow.domain false) (Rows.arenaBackSpec.post enc Try.prog Try.f5 false true false false) := by
  refine returnsInHanded_of_change (C := Try.checked) own started (by kernel_rfl) Try.func5
    (ChangeSpec.witness6 (enc := enc) (C := Try.checked) false ⟨#[], #[.agg #[.int .i64 0, .slice none 0 0, .slice none 0 0, .int .u64 0, .int .u64 0, .int .u64 0]], []⟩ 8 (by kernel_rfl) (by kernel_rfl) (by kernel_rfl) (by kernel_rfl)) ?_
  intro W base args ds gs before hval0 hW hcnd _
  have hval : ∀ (j : Nat) t v, Try.f5.params[j]? = some t → args[j]? = some v → Value.okWide Try.prog W .any base t v := hval0
  have hW' := hW
  obtain ⟨p, q, hA0, hV, rfl, hfz, hnd⟩ := hW
  have hA : DataW.TrodAll enc Try.prog W 0 (fun _ => true) true Try.f5.params.toList args.toList ds p := hA0
  rw [Try.params5] at hA hval
  obtain ⟨v0, vs0, d0, ds0, p0, q0, hargs, rfl, rfl, h0, r0⟩ := trodAll_cons hA
  obtain ⟨rfl, rfl, rfl⟩ := trodAll_nil r0
  obtain rfl : args = #[v0] := by cases args; simp_all
  obtain ⟨rfl, rfl⟩ := trodVars_none hV
  have h0k := h0
  obtain ⟨NM, AM0, AM1, nM0, nM1, cM0, cM1, xsM, ysM, a, v, b, rfl, hNM, hxM, hyM, ha, hv, hb⟩ := opened (hval 0 53 v0 rfl rfl) h0
  clear hA0 hval0
  simp only [List.append_nil] at hW'
  refine (walk NM AM0 AM1 nM0 nM1 cM0 cM1 xsM ysM a v b W hxM hyM ha hv hb).mono fun e W' ⟨he, hg⟩ => ?_
  subst he
  exact ⟨_, rfl, post_below (pa := p0) (pv := []) hW' (fun _ _ _ => (trodAll_cons_mk (shut_bool Try.underlying4 _) trodAll_mk0))
    (fun sp hsp => by
      have t := trodAll_cons_mk (trod_keeps (sp := sp) (by kernel_rfl) (of_decide_eq_true (by kernel_rfl)) h0k hg (fun x hx => hW'.lt x hx) (fun x hx => hsp x hx)) trodAll_mk0
      rw [List.append_nil] at t
      exact t) (fun _ _ => rfl) (by simp)
    hg (ok_one (by kernel_rfl) rfl (okWide_bool_mk Try.underlying4 _))⟩

theorem over : Rows.arenaBackRow.holds Try.pinned (OpenSpec.ofChange Rows.arenaBackSpec) :=
  OpenClaim.holds_of_wide 5 Try.f5 rfl rfl rfl rfl rfl rfl rfl ⟨rfl, rfl, rfl, rfl, rfl⟩ rfl rfl rfl rfl rfl (by kernel_rfl) Try.func5 (by kernel_rfl)
    (of_decide_eq_true (by kernel_rfl)) (by unfold Func.isWrapper; first | (rw [if_pos (by decide +kernel)]; kernel_rfl) | (rw [if_neg (by decide +kernel)]; exact ⟨rfl, rfl⟩))
    (fun os started H enc _ => lifted os started H enc)

theorem proved : Rows.ArenaBackSaid :=
  over
#print axioms proved
end Go.Proofs.Ytoneandmbnfcoaa.LArenaBack
