/- The document's answers for memory (dovecoteref03): contract of Move, all cases. -/
import Derived.Test.YtgcpkgogjcgfbaaRf4
import Derived.Test.YtgcpkgogjcgfbaaAr6
namespace Go.Proofs.Ytgcpkgogjcgfbaa
open Go.ChangeShapes Go.WideShapes Go.ChangeAt Go.RowKit
set_option linter.unusedVariables false
set_option linter.unusedSimpArgs false

set_option maxHeartbeats 2000000 in
theorem rmove_neg (m : Me) (a b k : Int) (P Q : Addr) (c d : Nat) (w : World) (hm : Sits w m P Q c d) (hk : k < 0) :
    Calls Try.prog 43 #[.agg #[.int .i64 m.n, .slice (some P) m.n c, .slice (some Q) m.n d], .int .u64 a, .int .u64 b, .int .i64 k] w (Gives1 w m (.int .i64 1)) := by
  have HM := Lib.hid hm
  clear hm
  go_enter Try.func43, Try.ntmps43
  go_wp2
  refine bodyPost_ret (v := .tuple #[.agg #[.int .i64 m.n, .slice (some P) m.n c, .slice (some Q) m.n d], .int .i64 1]) (by simp [results, Try.results43, go_sem]) rfl ?_
  have U := ((Up.refl w).alloc (.cells #[.int .i64 m.n, .slice (some P) m.n c, .slice (some Q) m.n d] 25)).alloc (.cells #[.int .i64 m.n, .slice (some P) m.n c, .slice (some Q) m.n d] 25)
  exact ⟨P, Q, c, d, rfl, HM.out.up U, U⟩

set_option maxHeartbeats 2000000 in
theorem rmove_no (m : Me) (a b k : Int) (x y : Bool) (P Q : Addr) (c d : Nat) (w : World) (hm : Sits w m P Q c d) (hk : 0 ≤ k) (hxy : (x && y) = false)
    (hpa : ∀ w, Calls Try.prog 51 #[.agg #[.int .i64 m.n, .slice (some P) m.n c, .slice (some Q) m.n d], .int .u64 a] w fun e w' => e = .returned (.bool x) ∧ Up w w')
    (hpb : ∀ w, Calls Try.prog 51 #[.agg #[.int .i64 m.n, .slice (some P) m.n c, .slice (some Q) m.n d], .int .u64 b] w fun e w' => e = .returned (.bool y) ∧ Up w w') :
    Calls Try.prog 43 #[.agg #[.int .i64 m.n, .slice (some P) m.n c, .slice (some Q) m.n d], .int .u64 a, .int .u64 b, .int .i64 k] w (Gives1 w m (.int .i64 2)) := by
  have HM := Lib.hid hm
  have hta := Lib.hid hpa
  have htb := Lib.hid hpb
  clear hm hpa hpb
  have hxy := Lib.hid hxy
  cases x <;> cases y
  case true.true => exact absurd hxy.out (by decide)
  all_goals
    clear hxy
    go_enter Try.func43, Try.ntmps43
    go_wp2_with (fail)
    refine (hta.out _).mono ?_
    rintro e w1 ⟨rfl, h1⟩
    have D1 := ((Blk.new w 25 _).alloc _).up h1
    have F1 := (Blk.new _ 25 _).up h1
    simp at F1
    have U1 : Up w w1 := (((Up.refl w).alloc _).alloc _).trans h1
    clear h1
    have D1c := D1.cell
    go_wp2_with (fail)
    refine (htb.out _).mono ?_
    rintro e w2 ⟨rfl, h2⟩
    have D2 := D1.up h2
    have F2 := F1.up h2
    have U2 : Up w w2 := U1.trans h2
    clear D1 F1 D1c U1 h2
    have D2c := D2.cell
    have D2l := D2.lt
    have F2c := F2.cell
    have F2f := F2.frozen
    go_wp2
    refine bodyPost_ret (v := .tuple #[.agg #[.int .i64 m.n, .slice (some P) m.n c, .slice (some Q) m.n d], .int .i64 2]) (by simp [results, Try.results43, go_sem, F2c]) rfl ?_
    exact ⟨P, Q, c, d, rfl, (HM.out.up U2).far3 F2 _ _ _, U2.set3 (by omega) _ _ _⟩

set_option maxHeartbeats 2000000 in
theorem rmove_far (m : Me) (a b s t k : Int) (i j : Nat) (P Q : Addr) (c d : Nat) (w : World) (hm : Sits w m P Q c d) (hk : I64 k) (k0 : 0 ≤ k) (hi : i < m.n) (hj : j < m.n) (hf : (m.n : Int) < i + k ∨ (m.n : Int) < j + k)
    (ha : U64 a) (hb : U64 b) (hla : Leads a s i) (hlb : Leads b t j) :
    Calls Try.prog 43 #[.agg #[.int .i64 m.n, .slice (some P) m.n c, .slice (some Q) m.n d], .int .u64 a, .int .u64 b, .int .i64 k] w (Gives1 w m (.int .i64 2)) := by
  have hn := hm.1.2.1
  have HM := Lib.hid hm
  have hta := fun w => rthere_any m a P Q c d w ha
  have htb := fun w => rthere_any m b P Q c d w hb
  rw [show decide (m.there a) = true from decide_eq_true ⟨hla.is.2.2, by rw [hla.is.2.1]; omega⟩] at hta
  rw [show decide (m.there b) = true from decide_eq_true ⟨hlb.is.2.2, by rw [hlb.is.2.1]; omega⟩] at htb
  have hwa := Lib.hid (fun w => rwhere_yes a s i ha hla w)
  have hwb := Lib.hid (fun w => rwhere_yes b t j hb hlb w)
  have hta := Lib.hid hta
  have htb := Lib.hid htb
  obtain ⟨hk0, hk1⟩ := hk
  by_cases h0 : (m.n : Int) < i + k
  · have hli : decide ((m.n : Int) - (i : Int) < k) = true := decide_eq_true (by omega)
    clear hm ha hb hla hlb hf h0
    go_enter Try.func43, Try.ntmps43
    go_wp2_with (fail)
    refine (hta.out _).mono ?_
    rintro e w1 ⟨rfl, h1⟩
    have D1 := ((Blk.new w 25 _).alloc _).up h1
    have F1 := (Blk.new _ 25 _).up h1
    simp at F1
    have U1 : Up w w1 := (((Up.refl w).alloc _).alloc _).trans h1
    clear h1
    have D1c := D1.cell
    go_wp2_with (fail)
    refine (htb.out _).mono ?_
    rintro e w2 ⟨rfl, h2⟩
    have D2 := D1.up h2
    have F2 := F1.up h2
    have U2 : Up w w2 := U1.trans h2
    clear D1 F1 D1c U1 h2
    have D2c := D2.cell
    have D2l := D2.lt
    have F2c := F2.cell
    have F2f := F2.frozen
    go_wp2_with (fail)
    refine (hwa.out _).mono ?_
    rintro e w3 ⟨rfl, rfl⟩
    go_wp2_with (fail)
    refine (hwb.out _).mono ?_
    rintro e w3 ⟨rfl, rfl⟩
    go_wp2
    refine bodyPost_ret (v := .tuple #[.agg #[.int .i64 m.n, .slice (some P) m.n c, .slice (some Q) m.n d], .int .i64 2]) (by simp [results, Try.results43, go_sem, F2c]) rfl ?_
    exact ⟨P, Q, c, d, rfl, (HM.out.up U2).far3 F2 _ _ _, U2.set3 (by omega) _ _ _⟩
  · have hli : decide ((m.n : Int) - (i : Int) < k) = false := decide_eq_false (by omega)
    have hlj : decide ((m.n : Int) - (j : Int) < k) = true := decide_eq_true (by omega)
    clear hm ha hb hla hlb hf h0
    go_enter Try.func43, Try.ntmps43
    go_wp2_with (fail)
    refine (hta.out _).mono ?_
    rintro e w1 ⟨rfl, h1⟩
    have D1 := ((Blk.new w 25 _).alloc _).up h1
    have F1 := (Blk.new _ 25 _).up h1
    simp at F1
    have U1 : Up w w1 := (((Up.refl w).alloc _).alloc _).trans h1
    clear h1
    have D1c := D1.cell
    go_wp2_with (fail)
    refine (htb.out _).mono ?_
    rintro e w2 ⟨rfl, h2⟩
    have D2 := D1.up h2
    have F2 := F1.up h2
    have U2 : Up w w2 := U1.trans h2
    clear D1 F1 D1c U1 h2
    have D2c := D2.cell
    have D2l := D2.lt
    have F2c := F2.cell
    have F2f := F2.frozen
    go_wp2_with (fail)
    refine (hwa.out _).mono ?_
    rintro e w3 ⟨rfl, rfl⟩
    go_wp2_with (fail)
    refine (hwb.out _).mono ?_
    rintro e w3 ⟨rfl, rfl⟩
    go_wp2
    refine bodyPost_ret (v := .tuple #[.agg #[.int .i64 m.n, .slice (some P) m.n c, .slice (some Q) m.n d], .int .i64 2]) (by simp [results, Try.results43, go_sem, F2c]) rfl ?_
    exact ⟨P, Q, c, d, rfl, (HM.out.up U2).far3 F2 _ _ _, U2.set3 (by omega) _ _ _⟩

theorem rmove_any (m : Me) (a b k : Int) (P Q : Addr) (c d : Nat) (w : World) (hm : Sits w m P Q c d) (ha : U64 a) (hb : U64 b) (hk : I64 k) :
    Calls Try.prog 43 #[.agg #[.int .i64 m.n, .slice (some P) m.n c, .slice (some Q) m.n d], .int .u64 a, .int .u64 b, .int .i64 k] w (Gives1 w (m.mv a b k) (.int .i64 (m.mve a b k))) := by
  by_cases h0 : k < 0
  · rw [show m.mve a b k = 1 from if_pos h0, show m.mv a b k = m from if_neg (fun q => by have := q.1; omega)]
    exact rmove_neg m a b k P Q c d w hm h0
  have k0 : 0 ≤ k := by omega
  by_cases hxy : m.there a ∧ m.there b
  · obtain ⟨ta, tb⟩ := hxy
    rcases leads_or a ha with ⟨s, p, hla⟩ | hn
    · rcases leads_or b hb with ⟨t, q, hlb⟩ | hn
      · obtain ⟨e1, e2, e3⟩ := hla.is
        obtain ⟨f1, f2, f3⟩ := hlb.is
        obtain ⟨i, rfl⟩ : ∃ i : Nat, p = i := ⟨p.toNat, by have := hla.2.1; omega⟩
        obtain ⟨j, rfl⟩ : ∃ j : Nat, q = j := ⟨q.toNat, by have := hlb.2.1; omega⟩
        obtain ⟨l, rfl⟩ : ∃ l : Nat, k = l := ⟨k.toNat, by omega⟩
        have hi : i < m.n := by have := ta.2; omega
        have hj : j < m.n := by have := tb.2; omega
        by_cases h : m.mvok a b l
        · rw [show m.mve a b l = 0 from (if_neg h0).trans (if_pos h), show m.mv a b l = _ from if_pos h, e1, e2, f1, f2]
          simp only [Int.toNat_natCast]
          have r := rmove_at m a b s t i j l P Q c d w hm ha hb hla hlb (by rw [← e2]; exact h.2.1.2) (by rw [← f2]; exact h.2.2.2)
          have hl : (((m.sp s).drop i).take l).take l = ((m.sp s).drop i).take l := by rw [List.take_take, Nat.min_self]
          unfold Me.mvx at r
          rw [hl] at r
          exact r
        · rw [show m.mve a b l = 2 from (if_neg h0).trans (if_neg h), show m.mv a b l = m from if_neg h]
          refine rmove_far m a b s t l i j P Q c d w hm hk k0 hi hj ?_ ha hb hla hlb
          by_cases q : (m.n : Int) < i + l ∨ (m.n : Int) < j + l
          · exact q
          · exact absurd ⟨k0, ⟨e3, by rw [e2]; unfold Runs; omega⟩, ⟨f3, by rw [f2]; unfold Runs; omega⟩⟩ h
      · exact absurd tb.1 (by rw [hn]; decide)
    · exact absurd ta.1 (by rw [hn]; decide)
  · have h : ¬ m.mvok a b k := fun q => hxy ⟨⟨q.2.1.1, by have := q.2.1.2.2; omega⟩, ⟨q.2.2.1, by have := q.2.2.2.2; omega⟩⟩
    rw [show m.mve a b k = 2 from (if_neg h0).trans (if_neg h), show m.mv a b k = m from if_neg h]
    refine rmove_no m a b k (decide (m.there a)) (decide (m.there b)) P Q c d w hm k0 ?_ (fun w => rthere_any m a P Q c d w ha) (fun w => rthere_any m b P Q c d w hb)
    rw [← Bool.decide_and]
    exact decide_eq_false hxy
end Go.Proofs.Ytgcpkgogjcgfbaa
