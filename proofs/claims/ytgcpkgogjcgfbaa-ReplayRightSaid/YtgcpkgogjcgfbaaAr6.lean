/- What is moved in memory (package arena): contract of Move. -/
import Derived.Test.YtgcpkgogjcgfbaaAr5
import Derived.IntWalk
namespace Go.Proofs.Ytgcpkgogjcgfbaa
open Go.ChangeShapes Go.WideShapes Go.ChangeAt Go.RowKit
set_option linter.unusedVariables false
set_option linter.unusedSimpArgs false

set_option maxRecDepth 100000 in
set_option maxHeartbeats 2000000 in
theorem move_at0 (n : Nat) (xs ys : List Int) (a b t : Int) (i j l : Nat) (P Q : Addr) (c d : Nat) (w : World) (hm : Sits w ⟨n, xs, ys⟩ P Q c d) (ha : U64 a) (hb : U64 b)
    (hla : Leads a 0 i) (hlb : Leads b t j) (hi : Runs n l i) (hj : Runs n l j) :
    Calls Try.prog 91 #[.agg #[.int .i64 n, .slice (some P) n c, .slice (some Q) n d], .int .u64 a, .int .u64 b, .int .i64 l] w
      (GivesF1 w (Me.put ⟨n, xs, ys⟩ t (splice (Me.sp ⟨n, xs, ys⟩ t) j ((xs.drop i).take l))) (.int .i64 0)) := by
  have h16 := hm.1.1
  have hn := hm.1.2.1
  have hx := hm.1.2.2.1
  have hcap := hm.2.1
  have hmax := hm.2.2.1
  unfold maxLen at hmax
  simp only at h16 hn hx hcap
  have hla' := hla.2.2.1
  have hpa := Lib.hid (fun w => place_yes n l a 0 i (some P) (some Q) c d hn (by omega) ha hla hi w)
  have hpb := Lib.hid (fun w => place_yes n l b t j (some P) (some Q) c d hn (by omega) hb hlb hj w)
  obtain ⟨hi0, hi1⟩ := hi
  obtain ⟨hj0, hj1⟩ := hj
  have hil : i + l ≤ n := by omega
  have hi2 : i < n := by omega
  have hj2 : j < n := by omega
  have hj3 : j + l ≤ n := by omega
  have hlen : ((xs.drop i).take l).length = l := by simp; omega
  have hlay := Lib.hid (fun (W : World) (cw : Nat) (hU : Up w W) => lay_len ⟨n, xs, ys⟩ t ((xs.drop i).take l) l j j P Q (P.add i) c d cw W hlen rfl (hm.up hU) hlb.1 ((hm.up hU).2.2.2.2.2.1.sub i l) (by simp; omega) (by simp; omega))
  generalize Me.put ⟨n, xs, ys⟩ t (splice (Me.sp ⟨n, xs, ys⟩ t) j ((xs.drop i).take l)) = M at hlay ⊢
  clear ha hb hla hlb hm hi0 hi1 hj0 hj1 hx hlen hla' h16
  have hil2 : i + l ≤ c := by omega
  have hci : ¬ c = i := by omega
  go_enter Try.func91, Try.ntmps91
  go_wp2_with (fail)
  refine (places_any _ _ _ _ _).mono ?_
  rintro e w1 ⟨rfl, h1⟩
  have D1 := ((Blk.new w 25 _).alloc _).up h1
  have F1 := (Blk.new _ 25 _).up h1
  simp at F1
  have U1 : Up w w1 := (((Up.refl w).alloc _).alloc _).trans h1
  clear h1
  go_wp2_with (fail)
  refine (hpa.out _).mono ?_
  rintro e w2 ⟨rfl, h2⟩
  have D2 := D1.up h2
  have F2 := F1.up h2
  have U2 : Up w w2 := U1.trans h2
  clear D1 F1 h2
  go_wp2_with (fail)
  refine (hpb.out _).mono ?_
  rintro e w3 ⟨rfl, h3⟩
  have D3 := (D2.alloc _).up h3
  have F3 := (F2.alloc _).up h3
  have S3 := (Blk.new w2 116 _).up h3
  have U3 : Up w w3 := (U2.alloc _).trans h3
  clear D2 F2 h3
  go_wp2_with (with_reducible refine halt_at (o := ⟨some 40, _, _, _, _, _⟩) ?_)
  obtain ⟨W, hW⟩ : ∃ W : World, W = (w3.alloc (.cells #[.int .i64 t, .int .i64 j] 116)).drew := ⟨_, rfl⟩
  have T4 : Blk W w3.heap.size 116 #[.int .i64 t, .int .i64 j] := by rw [hW]; exact (Blk.new _ _ _).drew
  have D4 := (D3.alloc (.cells #[.int .i64 t, .int .i64 j] 116)).drew
  have F4 := (F3.alloc (.cells #[.int .i64 t, .int .i64 j] 116)).drew
  have S4 := (S3.alloc (.cells #[.int .i64 t, .int .i64 j] 116)).drew
  have U4 := (U3.alloc (.cells #[.int .i64 t, .int .i64 j] 116)).drew
  rw [← hW] at D4 F4 S4 U4
  have HW := Lib.hid hW
  clear hW D3 F3 S3 U3
  have D4c := D4.cell
  have T4c := T4.cell
  have S4c := S4.cell
  have hwr : IntKind.i64.wrap ((i : Int) + (l : Int)) = (i : Int) + (l : Int) := IntWalk.i64_in _ (by omega)
  have hw0 : 0 ≤ (i : Int) + (l : Int) := by omega
  have hw1 : (i : Int) + (l : Int) ≤ (c : Int) := by omega
  have hw2 : ((i : Int) + (l : Int)).toNat = i + l := by omega
  refine region_tail 14 (by kernel_rfl) (by kernel_rfl) W HW.out ?_
  simp only [List.take_succ_cons, List.take_zero, List.drop_succ_cons, List.drop_zero]
  repeat still_step
  refine wpStill_nil ?_
  clear hwr hw0 hw1 hw2
  go_wp2_with (fail)
  refine (hlay.out W (c - i) U4).mono ?_
  rintro e w5 ⟨P', Q', c', d', rfl, hS, h5, hF⟩
  replace hF := Fr.up (a := w) hF U4.size
  have F5 := F4.up h5
  have U5 := U4.trans h5
  have F5c := F5.cell
  have F5f := F5.frozen
  clear D4 T4 S4 D4c T4c S4c F4 h5
  go_wp2
  refine bodyPost_ret (v := .tuple #[.agg #[.int .i64 M.n, .slice (some P') M.n c', .slice (some Q') M.n d'], .int .i64 0]) (by simp [results, Try.results91, go_sem, F5c]) rfl ?_
  exact ⟨P', Q', c', d', rfl, hS.far3 F5 _ _ _, U5.set3 (by simp) _ _ _, hF⟩

set_option maxRecDepth 100000 in
set_option maxHeartbeats 2000000 in
theorem move_at1 (n : Nat) (xs ys : List Int) (a b t : Int) (i j l : Nat) (P Q : Addr) (c d : Nat) (w : World) (hm : Sits w ⟨n, xs, ys⟩ P Q c d) (ha : U64 a) (hb : U64 b)
    (hla : Leads a 1 i) (hlb : Leads b t j) (hi : Runs n l i) (hj : Runs n l j) :
    Calls Try.prog 91 #[.agg #[.int .i64 n, .slice (some P) n c, .slice (some Q) n d], .int .u64 a, .int .u64 b, .int .i64 l] w
      (GivesF1 w (Me.put ⟨n, xs, ys⟩ t (splice (Me.sp ⟨n, xs, ys⟩ t) j ((ys.drop i).take l))) (.int .i64 0)) := by
  have h16 := hm.1.1
  have hn := hm.1.2.1
  have hx := hm.1.2.2.2
  have hcap := hm.2.2.2.1
  have hmax := hm.2.2.2.2.1
  unfold maxLen at hmax
  simp only at h16 hn hx hcap
  have hla' := hla.2.2.1
  have hpa := Lib.hid (fun w => place_yes n l a 1 i (some P) (some Q) c d hn (by omega) ha hla hi w)
  have hpb := Lib.hid (fun w => place_yes n l b t j (some P) (some Q) c d hn (by omega) hb hlb hj w)
  obtain ⟨hi0, hi1⟩ := hi
  obtain ⟨hj0, hj1⟩ := hj
  have hil : i + l ≤ n := by omega
  have hi2 : i < n := by omega
  have hj2 : j < n := by omega
  have hj3 : j + l ≤ n := by omega
  have hlen : ((ys.drop i).take l).length = l := by simp; omega
  have hlay := Lib.hid (fun (W : World) (cw : Nat) (hU : Up w W) => lay_len ⟨n, xs, ys⟩ t ((ys.drop i).take l) l j j P Q (Q.add i) c d cw W hlen rfl (hm.up hU) hlb.1 ((hm.up hU).2.2.2.2.2.2.sub i l) (by simp; omega) (by simp; omega))
  generalize Me.put ⟨n, xs, ys⟩ t (splice (Me.sp ⟨n, xs, ys⟩ t) j ((ys.drop i).take l)) = M at hlay ⊢
  clear ha hb hla hlb hm hi0 hi1 hj0 hj1 hx hlen hla' h16
  have hil2 : i + l ≤ d := by omega
  have hci : ¬ d = i := by omega
  go_enter Try.func91, Try.ntmps91
  go_wp2_with (fail)
  refine (places_any _ _ _ _ _).mono ?_
  rintro e w1 ⟨rfl, h1⟩
  have D1 := ((Blk.new w 25 _).alloc _).up h1
  have F1 := (Blk.new _ 25 _).up h1
  simp at F1
  have U1 : Up w w1 := (((Up.refl w).alloc _).alloc _).trans h1
  clear h1
  go_wp2_with (fail)
  refine (hpa.out _).mono ?_
  rintro e w2 ⟨rfl, h2⟩
  have D2 := D1.up h2
  have F2 := F1.up h2
  have U2 : Up w w2 := U1.trans h2
  clear D1 F1 h2
  go_wp2_with (fail)
  refine (hpb.out _).mono ?_
  rintro e w3 ⟨rfl, h3⟩
  have D3 := (D2.alloc _).up h3
  have F3 := (F2.alloc _).up h3
  have S3 := (Blk.new w2 116 _).up h3
  have U3 : Up w w3 := (U2.alloc _).trans h3
  clear D2 F2 h3
  go_wp2_with (with_reducible refine halt_at (o := ⟨some 40, _, _, _, _, _⟩) ?_)
  obtain ⟨W, hW⟩ : ∃ W : World, W = (w3.alloc (.cells #[.int .i64 t, .int .i64 j] 116)).drew := ⟨_, rfl⟩
  have T4 : Blk W w3.heap.size 116 #[.int .i64 t, .int .i64 j] := by rw [hW]; exact (Blk.new _ _ _).drew
  have D4 := (D3.alloc (.cells #[.int .i64 t, .int .i64 j] 116)).drew
  have F4 := (F3.alloc (.cells #[.int .i64 t, .int .i64 j] 116)).drew
  have S4 := (S3.alloc (.cells #[.int .i64 t, .int .i64 j] 116)).drew
  have U4 := (U3.alloc (.cells #[.int .i64 t, .int .i64 j] 116)).drew
  rw [← hW] at D4 F4 S4 U4
  have HW := Lib.hid hW
  clear hW D3 F3 S3 U3
  have D4c := D4.cell
  have T4c := T4.cell
  have S4c := S4.cell
  have hwr : IntKind.i64.wrap ((i : Int) + (l : Int)) = (i : Int) + (l : Int) := IntWalk.i64_in _ (by omega)
  have hw0 : 0 ≤ (i : Int) + (l : Int) := by omega
  have hw1 : (i : Int) + (l : Int) ≤ (d : Int) := by omega
  have hw2 : ((i : Int) + (l : Int)).toNat = i + l := by omega
  refine region_tail 14 (by kernel_rfl) (by kernel_rfl) W HW.out ?_
  simp only [List.take_succ_cons, List.take_zero, List.drop_succ_cons, List.drop_zero]
  repeat still_step
  refine wpStill_nil ?_
  clear hwr hw0 hw1 hw2
  go_wp2_with (fail)
  refine (hlay.out W (d - i) U4).mono ?_
  rintro e w5 ⟨P', Q', c', d', rfl, hS, h5, hF⟩
  replace hF := Fr.up (a := w) hF U4.size
  have F5 := F4.up h5
  have U5 := U4.trans h5
  have F5c := F5.cell
  have F5f := F5.frozen
  clear D4 T4 S4 D4c T4c S4c F4 h5
  go_wp2
  refine bodyPost_ret (v := .tuple #[.agg #[.int .i64 M.n, .slice (some P') M.n c', .slice (some Q') M.n d'], .int .i64 0]) (by simp [results, Try.results91, go_sem, F5c]) rfl ?_
  exact ⟨P', Q', c', d', rfl, hS.far3 F5 _ _ _, U5.set3 (by simp) _ _ _, hF⟩

set_option maxRecDepth 100000 in
set_option maxHeartbeats 2000000 in
theorem move_neg (m : Me) (a b k : Int) (P Q : Addr) (c d : Nat) (w : World) (hm : Sits w m P Q c d) (hk : k < 0) :
    Calls Try.prog 91 #[.agg #[.int .i64 m.n, .slice (some P) m.n c, .slice (some Q) m.n d], .int .u64 a, .int .u64 b, .int .i64 k] w (Gives1 w m (.int .i64 1)) := by
  have HM := Lib.hid hm
  clear hm
  go_enter Try.func91, Try.ntmps91
  go_wp2
  refine bodyPost_ret (v := .tuple #[.agg #[.int .i64 m.n, .slice (some P) m.n c, .slice (some Q) m.n d], .int .i64 1]) (by simp [results, Try.results91, go_sem]) rfl ?_
  have U := ((Up.refl w).alloc (.cells #[.int .i64 m.n, .slice (some P) m.n c, .slice (some Q) m.n d] 25)).alloc (.cells #[.int .i64 m.n, .slice (some P) m.n c, .slice (some Q) m.n d] 25)
  exact ⟨P, Q, c, d, rfl, HM.out.up U, U⟩

set_option maxRecDepth 100000 in
set_option maxHeartbeats 2000000 in
theorem move_no (m : Me) (a b k s t p q : Int) (x y : Bool) (P Q : Addr) (c d : Nat) (w : World) (hm : Sits w m P Q c d) (hk : 0 ≤ k) (hxy : (x && y) = false)
    (hpa : ∀ w, Calls Try.prog 98 #[.agg #[.int .i64 m.n, .slice (some P) m.n c, .slice (some Q) m.n d, .int .i64 k], .int .u64 a] w fun e w' => e = .returned (.tuple #[.agg #[.int .i64 s, .int .i64 p], .bool x]) ∧ Up w w')
    (hpb : ∀ w, Calls Try.prog 98 #[.agg #[.int .i64 m.n, .slice (some P) m.n c, .slice (some Q) m.n d, .int .i64 k], .int .u64 b] w fun e w' => e = .returned (.tuple #[.agg #[.int .i64 t, .int .i64 q], .bool y]) ∧ Up w w') :
    Calls Try.prog 91 #[.agg #[.int .i64 m.n, .slice (some P) m.n c, .slice (some Q) m.n d], .int .u64 a, .int .u64 b, .int .i64 k] w (Gives1 w m (.int .i64 2)) := by
  have HM := Lib.hid hm
  have hpa := Lib.hid hpa
  have hpb := Lib.hid hpb
  clear hm
  have hxy := Lib.hid hxy
  cases x <;> cases y
  case true.true => exact absurd hxy.out (by decide)
  all_goals
    clear hxy
    go_enter Try.func91, Try.ntmps91
    go_wp2_with (fail)
    refine (places_any _ _ _ _ _).mono ?_
    rintro e w1 ⟨rfl, h1⟩
    have D1 := ((Blk.new w 25 _).alloc _).up h1
    have F1 := (Blk.new _ 25 _).up h1
    simp at F1
    have U1 : Up w w1 := (((Up.refl w).alloc _).alloc _).trans h1
    clear h1
    go_wp2_with (fail)
    refine (hpa.out _).mono ?_
    rintro e w2 ⟨rfl, h2⟩
    have D2 := D1.up h2
    have F2 := F1.up h2
    have U2 : Up w w2 := U1.trans h2
    clear D1 F1 h2
    go_wp2_with (fail)
    refine (hpb.out _).mono ?_
    rintro e w3 ⟨rfl, h3⟩
    have D3 := (D2.alloc _).up h3
    have F3 := (F2.alloc _).up h3
    have U3 : Up w w3 := (U2.alloc _).trans h3
    clear D2 F2 h3
    have D3c := D3.cell
    have D3l := D3.lt
    have F3l := F3.lt
    have F3c := F3.cell
    have F3f := F3.frozen
    go_wp2
    refine bodyPost_ret (v := .tuple #[.agg #[.int .i64 m.n, .slice (some P) m.n c, .slice (some Q) m.n d], .int .i64 2]) (by simp [results, Try.results91, go_sem, F3c, F3l]) rfl ?_
    exact ⟨P, Q, c, d, rfl, ((HM.out.up U3).far3 F3 _ _ _).up ((Up.refl _).alloc _), (U3.set3 (by omega) _ _ _).alloc _⟩

/-- So many words are there, from both places on. -/
def Me.mvok (m : Me) (a b k : Int) : Prop := 0 ≤ k ∧ (whb a = true ∧ Runs m.n k (whp a)) ∧ (whb b = true ∧ Runs m.n k (whp b))
instance decMv (m : Me) (a b k : Int) : Decidable (m.mvok a b k) := by unfold Me.mvok; infer_instance
def Me.mv (m : Me) (a b k : Int) : Me := if m.mvok a b k then m.put (whs b) (splice (m.sp (whs b)) (whp b).toNat (((m.sp (whs a)).drop (whp a).toNat).take k.toNat)) else m
def Me.mve (m : Me) (a b k : Int) : Int := if k < 0 then 1 else if m.mvok a b k then 0 else 2

/-- What is moved, where the words are there. -/
theorem move_ok (m : Me) (a b k : Int) (P Q : Addr) (c d : Nat) (w : World) (hm : Sits w m P Q c d) (ha : U64 a) (hb : U64 b) (h : m.mvok a b k) :
    Calls Try.prog 91 #[.agg #[.int .i64 m.n, .slice (some P) m.n c, .slice (some Q) m.n d], .int .u64 a, .int .u64 b, .int .i64 k] w (GivesF1 w (m.mv a b k) (.int .i64 0)) := by
  rw [show m.mv a b k = _ from if_pos h]
  obtain ⟨k0, ⟨wa, ra⟩, ⟨wb, rb⟩⟩ := h
  rcases leads_or a ha with ⟨s, p, hla⟩ | hn
  · rcases leads_or b hb with ⟨t, q, hlb⟩ | hn
    · obtain ⟨e1, e2, e3⟩ := hla.is
      obtain ⟨f1, f2, f3⟩ := hlb.is
      rw [e2] at ra
      rw [f2] at rb
      rw [e1, e2, f1, f2]
      obtain ⟨i, rfl⟩ : ∃ i : Nat, p = i := ⟨p.toNat, by have := hla.2.1; omega⟩
      obtain ⟨j, rfl⟩ : ∃ j : Nat, q = j := ⟨q.toNat, by have := hlb.2.1; omega⟩
      obtain ⟨l, rfl⟩ : ∃ l : Nat, k = l := ⟨k.toNat, by omega⟩
      simp only [Int.toNat_natCast]
      rcases hla.1 with rfl | rfl
      · exact move_at0 m.n m.xs m.ys a b t i j l P Q c d w hm ha hb hla hlb ra rb
      · exact move_at1 m.n m.xs m.ys a b t i j l P Q c d w hm ha hb hla hlb ra rb
    · exact absurd wb (by rw [hn]; decide)
  · exact absurd wa (by rw [hn]; decide)
/-- What is moved, and why not. -/
theorem move_any (m : Me) (a b k : Int) (P Q : Addr) (c d : Nat) (w : World) (hm : Sits w m P Q c d) (ha : U64 a) (hb : U64 b) (hk : I64 k) :
    Calls Try.prog 91 #[.agg #[.int .i64 m.n, .slice (some P) m.n c, .slice (some Q) m.n d], .int .u64 a, .int .u64 b, .int .i64 k] w (Gives1 w (m.mv a b k) (.int .i64 (m.mve a b k))) := by
  by_cases h0 : k < 0
  · rw [show m.mve a b k = 1 from if_pos h0, show m.mv a b k = m from if_neg (fun q => by have := q.1; omega)]
    exact move_neg m a b k P Q c d w hm h0
  have k0 : 0 ≤ k := by omega
  by_cases h : m.mvok a b k
  · rw [show m.mve a b k = 0 from (if_neg h0).trans (if_pos h), show m.mv a b k = _ from if_pos h]
    obtain ⟨_, ⟨wa, ra⟩, ⟨wb, rb⟩⟩ := h
    rcases leads_or a ha with ⟨s, p, hla⟩ | hn
    · rcases leads_or b hb with ⟨t, q, hlb⟩ | hn
      · obtain ⟨e1, e2, e3⟩ := hla.is
        obtain ⟨f1, f2, f3⟩ := hlb.is
        rw [e2] at ra
        rw [f2] at rb
        rw [e1, e2, f1, f2]
        obtain ⟨i, rfl⟩ : ∃ i : Nat, p = i := ⟨p.toNat, by have := hla.2.1; omega⟩
        obtain ⟨j, rfl⟩ : ∃ j : Nat, q = j := ⟨q.toNat, by have := hlb.2.1; omega⟩
        obtain ⟨l, rfl⟩ : ∃ l : Nat, k = l := ⟨k.toNat, by omega⟩
        simp only [Int.toNat_natCast]
        rcases hla.1 with rfl | rfl
        · exact (move_at0 m.n m.xs m.ys a b t i j l P Q c d w hm ha hb hla hlb ra rb).mono (fun _ _ h => h.weak)
        · exact (move_at1 m.n m.xs m.ys a b t i j l P Q c d w hm ha hb hla hlb ra rb).mono (fun _ _ h => h.weak)
      · exact absurd wb (by rw [hn]; decide)
    · exact absurd wa (by rw [hn]; decide)
  · rw [show m.mve a b k = 2 from (if_neg h0).trans (if_neg h), show m.mv a b k = m from if_neg h]
    by_cases ra : whb a = true ∧ Runs m.n k (whp a)
    · have rb : ¬ (whb b = true ∧ Runs m.n k (whp b)) := fun rb => h ⟨k0, ra, rb⟩
      rcases leads_or a ha with ⟨s, p, hla⟩ | hn
      · obtain ⟨e1, e2, e3⟩ := hla.is
        exact move_no m a b k s 0 p 0 true false P Q c d w hm k0 rfl (fun w => place_yes m.n k a s p _ _ c d hm.1.2.1 k0 ha hla (by rw [← e2]; exact ra.2) w) (fun w => place_no m k b _ _ c d hm.1.2.1 hk k0 hb rb w)
      · exact absurd ra.1 (by rw [hn]; decide)
    · by_cases rb : whb b = true ∧ Runs m.n k (whp b)
      · rcases leads_or b hb with ⟨t, q, hlb⟩ | hn
        · obtain ⟨e1, e2, e3⟩ := hlb.is
          exact move_no m a b k 0 t 0 q false true P Q c d w hm k0 rfl (fun w => place_no m k a _ _ c d hm.1.2.1 hk k0 ha ra w) (fun w => place_yes m.n k b t q _ _ c d hm.1.2.1 k0 hb hlb (by rw [← e2]; exact rb.2) w)
        · exact absurd rb.1 (by rw [hn]; decide)
      · exact move_no m a b k 0 0 0 0 false false P Q c d w hm k0 rfl (fun w => place_no m k a _ _ c d hm.1.2.1 hk k0 ha ra w) (fun w => place_no m k b _ _ c d hm.1.2.1 hk k0 hb rb w)

def Me.clr (m : Me) (s : Int) : Me := if s = 0 ∨ s = 1 then m.put s (zers m.n) else m
theorem splice_zers (l : List Int) (n : Nat) (h : l.length = n) : splice l 0 (zers n) = zers n := by
  simp [splice, len_zers, h]

end Go.Proofs.Ytgcpkgogjcgfbaa
