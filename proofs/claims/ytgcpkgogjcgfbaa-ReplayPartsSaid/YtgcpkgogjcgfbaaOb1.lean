/- Small parts of objects (package object: unless, has, sum, field, there; head.Words; the document's There, Words and Pointer): contracts. -/
import Derived.Test.YtgcpkgogjcgfbaaHd4
import Derived.Test.YtgcpkgogjcgfbaaOb0
import Derived.Test.YtgcpkgogjcgfbaaPur
import Derived.Deep.RegionHeld3
import Derived.Deep.QuietTactic
import Derived.BigQuiet
namespace Go.Proofs.Ytgcpkgogjcgfbaa
open Go.ChangeShapes Go.WideShapes Go.ChangeAt Go.RowKit
set_option linter.unusedVariables false
set_option linter.unusedSimpArgs false

/-- How many words an object takes. -/
def wdn (t l : Int) : Int := if t = 255 then l + 1 else l + 2
theorem words_any (t l m : Int) (hm : 0 ≤ m) (h : rte t l m = 0) (w : World) :
    Calls Try.prog 87 #[hdv t l m] w fun e w' => e = .returned (.int .i64 (wdn t l)) ∧ Up w w' := by
  obtain ⟨h0, h1, h2, h3, h4, h5⟩ := rte_small hm h
  by_cases ht : t = 255
  · rw [show wdn t l = l + 1 from if_pos ht]
    exact words_f t l m ht h2 h3 w
  · rw [show wdn t l = 2 + l from (if_neg ht).trans (by omega)]
    exact words_o t l m (by omega) h2 (by omega) w
set_option maxHeartbeats 400000 in
theorem rhwords_any (t l m : Int) (hm : 0 ≤ m) (h : rte t l m = 0) (w : World) :
    Calls Try.prog 40 #[hdv t l m] w fun e w' => e = .returned (.int .i64 (wdn t l)) ∧ Up w w' := by
  obtain ⟨h0, h1, h2, h3, h4, h5⟩ := rte_small hm h
  clear h h5
  by_cases ht : t = 255
  · rw [show wdn t l = 1 + l from (if_pos ht).trans (by omega)]
    subst ht
    go_enter Try.func40, Try.ntmps40
    go_wp2
    go_ret
    exact ⟨rfl, (Up.refl _).alloc _⟩
  · rw [show wdn t l = 2 + l from (if_neg ht).trans (by omega)]
    have hb : (t == 255) = false := beq_eq_false_iff_ne.mpr ht
    clear ht
    go_enter Try.func40, Try.ntmps40
    go_wp2
    go_ret
    exact ⟨rfl, (Up.refl _).alloc _⟩
theorem wdn_small {t l m : Int} (hm : 0 ≤ m) (h : rte t l m = 0) : 1 ≤ wdn t l ∧ wdn t l ≤ 65536 := by
  obtain ⟨h0, h1, h2, h3, h4, h5⟩ := rte_small hm h
  unfold wdn
  split <;> omega

/-- 0, if it holds; else the error. -/
def unl (b : Bool) (x : Int) : Int := if b then 0 else x
theorem unless_any (b : Bool) (x : Int) (w : World) :
    Calls Try.prog 83 #[.bool b, .int .i64 x] w fun e w' => e = .returned (.int .i64 (unl b x)) ∧ w = w' := by
  cases b
  · rw [show unl false x = x from rfl]
    go_enter Try.func83, Try.ntmps83
    go_wp2
    go_ret
    exact ⟨rfl, rfl⟩
  · rw [show unl true x = 0 from rfl]
    go_enter Try.func83, Try.ntmps83
    go_wp2
    go_ret
    exact ⟨rfl, rfl⟩

/-- Does an object have the field? -/
def hasb (l i : Int) : Bool := decide (0 ≤ i ∧ i < l)
set_option maxHeartbeats 400000 in
theorem has_any (t l m i : Int) (w : World) :
    Calls Try.prog 55 #[hdv t l m, .int .i64 i] w fun e w' => e = .returned (.int .i64 (unl (hasb l i) 7)) ∧ Up w w' := by
  by_cases h0 : 0 ≤ i
  · by_cases h1 : i < l
    · rw [show hasb l i = true from decide_eq_true ⟨h0, h1⟩]
      have hu := Lib.hid (fun w => unless_any true 7 w)
      go_enter Try.func55, Try.ntmps55
      go_wp2_with (fail)
      refine (hu.out _).mono ?_
      rintro e w1 ⟨rfl, rfl⟩
      go_wp2
      go_ret
      exact ⟨rfl, (Up.refl _).alloc _⟩
    · rw [show hasb l i = false from decide_eq_false (fun q => h1 q.2)]
      have hu := Lib.hid (fun w => unless_any false 7 w)
      have hd : decide (i < l) = false := decide_eq_false h1
      clear h1
      go_enter Try.func55, Try.ntmps55
      go_wp2_with (fail)
      refine (hu.out _).mono ?_
      rintro e w1 ⟨rfl, rfl⟩
      go_wp2
      go_ret
      exact ⟨rfl, (Up.refl _).alloc _⟩
  · rw [show hasb l i = false from decide_eq_false (fun q => h0 q.1)]
    have hu := Lib.hid (fun w => unless_any false 7 w)
    have hd : decide (0 ≤ i) = false := decide_eq_false h0
    clear h0
    go_enter Try.func55, Try.ntmps55
    go_wp2_with (fail)
    refine (hu.out _).mono ?_
    rintro e w1 ⟨rfl, rfl⟩
    go_wp2
    go_ret
    exact ⟨rfl, (Up.refl _).alloc _⟩

set_option maxHeartbeats 400000 in
theorem sum_1 (a k : Int) (g : Nat) (w : World) (h0 : 0 ≤ a) (h1 : 0 ≤ k) (h2 : a + k ≤ 18446744073709551615) (hb : Blk w g 3 #[.int .i64 k]) :
    Calls Try.prog 63 #[.int .u64 a, .slice (some ⟨g, 0, none⟩) 1 1] w fun e w' => e = .returned (.int .u64 (a + k)) ∧ w = w' := by
  have hc := hb.cell 0
  simp at hc
  go_enter Try.func63, Try.ntmps63
  go_wp2
  refine wp_loop_rounds 2 ?_
  rw [rounds_succ]
  go_wp2
  rw [rounds_succ]
  go_wp2
  go_ret
  exact ⟨rfl, rfl⟩

set_option maxHeartbeats 400000 in
theorem sum_2 (a k l : Int) (g : Nat) (w : World) (h0 : 0 ≤ a) (h1 : 0 ≤ k) (h2 : 0 ≤ l) (h3 : a + k + l ≤ 18446744073709551615) (hb : Blk w g 3 #[.int .i64 k, .int .i64 l]) :
    Calls Try.prog 63 #[.int .u64 a, .slice (some ⟨g, 0, none⟩) 2 2] w fun e w' => e = .returned (.int .u64 (a + k + l)) ∧ w = w' := by
  have hc := hb.cell 0
  have hd := hb.cell 1
  simp at hc hd
  go_enter Try.func63, Try.ntmps63
  go_wp2
  refine wp_loop_rounds 3 ?_
  rw [rounds_succ]
  go_wp2
  rw [rounds_succ]
  go_wp2
  rw [rounds_succ]
  go_wp2
  go_ret
  exact ⟨rfl, rfl⟩

set_option maxHeartbeats 400000 in
theorem field_any (a i : Int) (w : World) (h0 : 0 ≤ a) (h1 : 0 ≤ i) (h2 : a + 2 + i ≤ 18446744073709551615) :
    Calls Try.prog 58 #[.int .u64 a, .int .i64 i] w fun e w' => e = .returned (.int .u64 (a + 2 + i)) ∧ Up w w' := by
  have hs := Lib.hid (fun (w : World) (g : Nat) (hb : Blk w g 3 #[.int .i64 2, .int .i64 i]) => sum_2 a 2 i g w h0 (by decide) h1 h2 hb)
  clear h0 h1 h2
  go_enter Try.func58, Try.ntmps58
  go_wp2_with (fail)
  refine (hs.out _ _ (Blk.new w 3 #[.int .i64 2, .int .i64 i])).mono ?_
  rintro e w1 ⟨rfl, rfl⟩
  go_wp2
  go_ret
  exact ⟨rfl, (Up.refl _).alloc _⟩

/-- Are so many words there from an address on? -/
def Me.inn (m : Me) (a k : Int) : Prop := whb a = true ∧ whp a + k ≤ m.n
instance decInn (m : Me) (a k : Int) : Decidable (m.inn a k) := by unfold Me.inn; infer_instance

set_option maxHeartbeats 1000000 in
theorem there_no (m : Me) (a t l mp : Int) (P Q : Addr) (c d : Nat) (w : World) (ha : U64 a) (hb : whb a = false) :
    Calls Try.prog 78 #[.agg #[.int .i64 m.n, .slice (some P) m.n c, .slice (some Q) m.n d], .int .u64 a, hdv t l mp] w fun e w' => e = .returned (.int .i64 2) ∧ Up w w' := by
  have hw := Lib.hid (fun w => where_not a ha hb w)
  have hu := Lib.hid (fun w => unless_any false 2 w)
  clear ha hb
  go_enter Try.func78, Try.ntmps78
  go_wp2_with (fail)
  refine (hw.out _).mono ?_
  rintro e w1 ⟨rfl, h1⟩
  have U1 : Up w w1 := (((Up.refl w).alloc _).alloc _).trans h1
  go_wp2_with (fail)
  clear h1
  go_quiet ((go_at_call 83; exact quiet_same (hu.out _)))
  go_wp2
  go_ret
  exact ⟨rfl, U1.drewN _⟩

set_option maxHeartbeats 2000000 in
theorem there_at (m : Me) (a s p t l mp : Int) (P Q : Addr) (c d : Nat) (w : World) (hn : m.n ≤ 4096) (ha : U64 a) (hl : Leads a s p) (hm : 0 ≤ mp) (hh : rte t l mp = 0) (b : Bool) (hb : fitb p (wdn t l) m.n = b) :
    Calls Try.prog 78 #[.agg #[.int .i64 m.n, .slice (some P) m.n c, .slice (some Q) m.n d], .int .u64 a, hdv t l mp] w fun e w' => e = .returned (.int .i64 (unl b 2)) ∧ Up w w' := by
  have hw := Lib.hid (fun w => where_yes a s p ha hl w)
  have hu := Lib.hid (fun w => unless_any b 2 w)
  have hwd := Lib.hid (fun w => words_any t l mp hm hh w)
  have hft := Lib.hid (fun w => show Calls Try.prog 97 #[.int .i64 p, .int .i64 (wdn t l), .int .i64 m.n] w fun e w' => e = .returned (.bool b) ∧ Up w w' from by
    have := wdn_small hm hh
    have := hl.2.1
    have := hl.2.2.1
    have h := fits_any p (wdn t l) m.n ⟨by omega, by omega⟩ ⟨by omega, by omega⟩ ⟨by omega, by omega⟩ w
    rw [hb] at h
    exact h)
  generalize wdn t l = n at hb hwd hft
  clear ha hb hl hh hm
  go_enter Try.func78, Try.ntmps78
  go_wp2_with (fail)
  refine (hw.out _).mono ?_
  rintro e w1 ⟨rfl, h1⟩
  have D1 := ((Blk.new w 25 #[.int .i64 m.n, .slice (some P) m.n c, .slice (some Q) m.n d]).alloc (.cells #[.int .i64 t, .int .i64 l, .int .u64 mp] 55)).up h1
  have H1 := (Blk.new (w.alloc (.cells #[.int .i64 m.n, .slice (some P) m.n c, .slice (some Q) m.n d] 25)) 55 #[.int .i64 t, .int .i64 l, .int .u64 mp]).up h1
  simp at H1
  have U1 : Up w w1 := (((Up.refl w).alloc _).alloc _).trans h1
  clear h1
  go_wp2_with (fail)
  have D2 := D1.drew
  have H2 := H1.drew
  have U2 := U1.drew
  have U0 := Up.refl w1.drew
  clear D1 H1 U1
  cases b
  all_goals
    go_region_held3 (fun w' => (∀ i, w'.cell? ⟨w.heap.size, i, none⟩ = (#[.int .i64 m.n, .slice (some P) m.n c, .slice (some Q) m.n d] : Array Value)[i]?) ∧ (∀ i, w'.cell? ⟨w.heap.size + 1, i, none⟩ = (#[.int .i64 t, .int .i64 l, .int .u64 mp] : Array Value)[i]?))
      (exact ⟨fun i => (Blk.up D2 (by assumption)).cell i, fun i => (Blk.up H2 (by assumption)).cell i⟩)
      (first
        | (go_at_call 87; ((with_reducible refine (hwd.out _).mono ?_); rintro e wz ⟨rfl, hz⟩; have UZ := Up.trans (a := w1.drew) (by assumption) hz))
        | (go_at_call 97; ((with_reducible refine (hft.out _).mono ?_); rintro e wz ⟨rfl, hz⟩; have UZ := Up.trans (a := w1.drew) (by assumption) hz))
        | (go_at_call 83; ((with_reducible refine (hu.out _).mono ?_); rintro e wz ⟨rfl, rfl⟩)))
  all_goals
    go_wp2
    go_ret
    exact ⟨rfl, U2.trans (by assumption)⟩

/-- Are an object's words there? -/
theorem there_any (m : Me) (a t l mp : Int) (P Q : Addr) (c d : Nat) (w : World) (hn : m.n ≤ 4096) (ha : U64 a) (hm : 0 ≤ mp) (hh : rte t l mp = 0) :
    Calls Try.prog 78 #[.agg #[.int .i64 m.n, .slice (some P) m.n c, .slice (some Q) m.n d], .int .u64 a, hdv t l mp] w fun e w' => e = .returned (.int .i64 (unl (decide (m.inn a (wdn t l))) 2)) ∧ Up w w' := by
  rcases leads_or a ha with ⟨s, p, hl⟩ | hb
  · obtain ⟨e1, e2, e3⟩ := hl.is
    refine there_at m a s p t l mp P Q c d w hn ha hl hm hh _ ?_
    have := (wdn_small hm hh).1
    have := hl.2.1
    subst e2
    exact decide_eq_decide.2 ⟨fun h => ⟨e3, h.2.2⟩, fun h => ⟨by omega, by omega, h.2⟩⟩
  · rw [show decide (m.inn a (wdn t l)) = false from decide_eq_false (fun q => by have := q.1; rw [hb] at this; cases this)]
    exact there_no m a t l mp P Q c d w ha hb

set_option maxHeartbeats 1000000 in
theorem rthere5_any (m : Me) (a k : Int) (P Q : Addr) (c d : Nat) (w : World) (hn : m.n ≤ 4096) (ha : U64 a) (hk : 1 ≤ k) :
    Calls Try.prog 39 #[.agg #[.int .i64 m.n, .slice (some P) m.n c, .slice (some Q) m.n d], .int .u64 a, .int .i64 k] w fun e w' => e = .returned (.bool (decide (m.inn a k))) ∧ Up w w' := by
  have ht := fun w => rthere_any m a P Q c d w ha
  by_cases h : m.there a
  · rw [decide_eq_true h] at ht
    have ht := Lib.hid ht
    rcases leads_or a ha with ⟨s, p, hl⟩ | hb
    · obtain ⟨e1, e2, e3⟩ := hl.is
      have hw := Lib.hid (fun w => rwhere_yes a s p ha hl w)
      have p0 := hl.2.1
      have p1 : p < m.n := by have := h.2; omega
      generalize hB : decide (m.inn a k) = B
      have hd : decide (k ≤ (m.n : Int) - p) = B := by
        rw [← hB]
        subst e2
        exact decide_eq_decide.2 ⟨fun h => ⟨e3, by omega⟩, fun h => by have := h.2; omega⟩
      clear hB ha hl h e1 e2 e3 hk
      go_enter Try.func39, Try.ntmps39
      go_wp2_with (fail)
      refine (ht.out _).mono ?_
      rintro e w1 ⟨rfl, h1⟩
      have D1 := (Blk.new w 25 #[.int .i64 m.n, .slice (some P) m.n c, .slice (some Q) m.n d]).up h1
      have U1 : Up w w1 := ((Up.refl w).alloc _).trans h1
      clear h1
      have D1c := D1.cell
      go_wp2_with (fail)
      refine (hw.out _).mono ?_
      rintro e w2 ⟨rfl, rfl⟩
      go_wp2
      go_ret
      exact ⟨rfl, U1⟩
    · exact absurd h.1 (by rw [hb]; decide)
  · rw [decide_eq_false h] at ht
    have ht := Lib.hid ht
    rw [show decide (m.inn a k) = false from decide_eq_false (fun q => h ⟨q.1, by have := q.2; omega⟩)]
    clear h hk
    go_enter Try.func39, Try.ntmps39
    go_wp2_with (fail)
    refine (ht.out _).mono ?_
    rintro e w1 ⟨rfl, h1⟩
    have U1 : Up w w1 := ((Up.refl w).alloc _).trans h1
    go_wp2
    go_ret
    exact ⟨rfl, U1⟩

set_option maxHeartbeats 1000000 in
theorem rptr_any (t l m i : Int) (hm : 0 ≤ m) (hm1 : m ≤ 18446744073709551615) (h1 : l ≤ 62) (w : World) :
    Calls Try.prog 41 #[hdv t l m, .int .i64 i] w fun e w' => e = .returned (.bool (ptb l m i)) ∧ Up w w' := by
  have U := Lib.hid (Up.refl w)
  by_cases c0 : 0 ≤ i
  · by_cases c1 : i < l
    · have hp := pow_le i.toNat (by omega)
      have hpw := Lib.hid (fun w => rpow_at i c0 (by omega) w)
      have hd : 0 ≤ m / 2 ^ i.toNat ∧ m / 2 ^ i.toNat ≤ m := ⟨Int.ediv_nonneg hm (by omega), Int.ediv_le_self _ hm⟩
      have E : (m / 2 ^ i.toNat % 2 == 1) = ptb l m i := by
        unfold ptb
        rw [decide_eq_true c0, decide_eq_true c1]
        rfl
      obtain ⟨K, hK⟩ : ∃ K : Int, K = 2 ^ i.toNat := ⟨_, rfl⟩
      rw [← hK] at hp hpw hd E
      obtain ⟨p0, p1⟩ := hp
      obtain ⟨d0, d1⟩ := hd
      clear hK
      generalize ptb l m i = b at E
      have q1 : decide (l ≤ i) = false := decide_eq_false (by omega)
      go_enter Try.func41, Try.ntmps41
      go_wp2
      go_quiet ((go_at_call 72; exact quiet_same (hpw.out _)))
      go_wp2
      go_ret
      exact ⟨rfl, ((Up.refl _).alloc _).drewN _⟩
    · have E : ptb l m i = false := by unfold ptb; rw [decide_eq_false c1, Bool.false_and, Bool.and_false]
      rw [E]
      clear E
      have d1 : decide (l ≤ i) = true := decide_eq_true (by omega)
      go_enter Try.func41, Try.ntmps41
      go_wp2
      go_ret
      exact ⟨rfl, (Up.refl _).alloc _⟩
  · have E : ptb l m i = false := by unfold ptb; rw [decide_eq_false c0, Bool.false_and]
    rw [E]
    clear E
    go_enter Try.func41, Try.ntmps41
    go_wp2
    go_ret
    exact ⟨rfl, (Up.refl _).alloc _⟩

end Go.Proofs.Ytgcpkgogjcgfbaa
