/- All objects of a space, those that are no fillers, and how many words they have (walk.All, Objects, Words): contracts. -/
import Derived.Test.YtmjadmoadedghaaWk3
namespace Go.Proofs.Ytmjadmoadedghaa
open Go.ChangeShapes Go.WideShapes Go.ChangeAt Go.RowKit
set_option linter.unusedVariables false
set_option linter.unusedSimpArgs false

/-- A space, thing by thing. -/
def Me.sq (m : Me) (s lim : Int) : List Th := m.seqn s lim (lim.toNat + 1) 0
def Me.vld (m : Me) (s lim : Int) : Prop := (s = 0 ∨ s = 1) ∧ 0 ≤ lim ∧ lim ≤ m.n
instance decVld (m : Me) (s lim : Int) : Decidable (m.vld s lim) := by unfold Me.vld; infer_instance
/-- Its error, and what is told of those that are wanted. -/
def Me.tle (m : Me) (s lim : Int) : Int := if m.vld s lim then ers (m.sq s lim) else 1
def Me.tll (m : Me) (wn : Th → Bool) (s lim : Int) : List Int := if m.tle s lim = 0 then pick wn (m.sq s lim) else []
def wAll (x : Th) : Bool := true
def wObj (x : Th) : Bool := !(x.t == 255)

theorem seqn_len (m : Me) (s lim : Int) : ∀ (f : Nat) (p : Int), (m.seqn s lim f p).length ≤ f
  | 0, _ => Nat.le_refl _
  | f + 1, p => by
    unfold Me.seqn
    split
    · exact Nat.zero_le _
    · split
      · have := seqn_len m s lim f (p + m.wsz (adr s p))
        simp only [List.length_cons]
        omega
      · simp

theorem Lo.le {w : World} {n₀ n₁ : Nat} {v : Value} {xs : List Int} (h : Lo w n₀ v xs) (k : n₁ ≤ n₀) : Lo w n₁ v xs :=
  ⟨h.1, h.2.imp id fun ⟨g, cap, cur, h1, h2, r⟩ => ⟨g, cap, cur, h1, Nat.le_trans k h2, r⟩⟩
set_option maxHeartbeats 400000 in
theorem all_w (x : Th) (w : World) : Calls Try.prog 27 #[.agg #[.int .u64 x.a, .int .i64 x.t, .int .i64 x.l, .int .u64 x.m]] w fun e w' => e = .returned (.bool (wAll x)) ∧ Up w w' := by
  unfold wAll
  go_enter Try.func27, Try.ntmps27
  go_wp2
  go_ret
  exact ⟨rfl, (Up.refl _).alloc _⟩
set_option maxHeartbeats 400000 in
theorem obj_w (x : Th) (w : World) : Calls Try.prog 39 #[.agg #[.int .u64 x.a, .int .i64 x.t, .int .i64 x.l, .int .u64 x.m]] w fun e w' => e = .returned (.bool (wObj x)) ∧ Up w w' := by
  have hf := Lib.hid (fun w => filler_any x.t x.l x.m w)
  unfold wObj
  generalize (x.t == 255) = b at hf ⊢
  go_enter Try.func39, Try.ntmps39
  go_wp2_with (fail)
  refine (hf.out _).mono ?_
  rintro e w1 ⟨rfl, h1⟩
  go_wp2
  go_ret
  exact ⟨rfl, ((Up.refl _).alloc _).trans h1⟩

theorem told_is (m : Me) (P Q : Addr) (c d : Nat) (s lim : Int) (fk : Nat) (wn : Th → Bool) (w : World) (hm : Sits w m P Q c d) (hwf : m.wf)
    (hcall : ∀ args w, (callFunc fk args).run Try.prog w = .ok (.enter fk args) w)
    (hw : ∀ (x : Th) (w : World), Calls Try.prog fk #[.agg #[.int .u64 x.a, .int .i64 x.t, .int .i64 x.l, .int .u64 x.m]] w fun e w' => e = .returned (.bool (wn x)) ∧ Up w w') :
    Calls Try.prog 26 #[.agg (mcs m.n P Q c d), .int .i64 s, .int .i64 lim, .func (.func fk) #[] #[]] w (Tolds w (m.tll wn s lim) (m.tle s lim)) := by
  by_cases h : m.vld s lim
  · have hl := seqn_len m s lim (lim.toNat + 1) 0
    have hn := hm.1.2.1
    refine told_any m P Q c d s lim fk wn w hm hwf h.1 h.2.1 h.2.2 _ _ (if_pos h).symm rfl (by have := h.2.2; omega) hcall hw
  · rw [show m.tle s lim = 1 from if_neg h, show m.tll wn s lim = [] from by unfold Me.tll; rw [show m.tle s lim = 1 from if_neg h]; rfl]
    exact told_arg m.n P Q c d s lim fk w h

set_option maxHeartbeats 400000 in
theorem all_any (m : Me) (P Q : Addr) (c d : Nat) (s lim : Int) (w : World) (hm : Sits w m P Q c d) (hwf : m.wf) :
    Calls Try.prog 12 #[.agg (mcs m.n P Q c d), .int .i64 s, .int .i64 lim] w (Tolds w (m.tll wAll s lim) (m.tle s lim)) := by
  have ht := Lib.hid (fun (W : World) (hS : Sits W m P Q c d) => told_is m P Q c d s lim 27 wAll W hS hwf Try.call27 all_w)
  have HM := Lib.hid hm
  clear hm
  generalize m.tll wAll s lim = xs at ht ⊢
  generalize m.tle s lim = er at ht ⊢
  go_enter Try.func12, Try.ntmps12
  go_wp2_with (fail)
  refine (ht.out _ (HM.out.up ((Up.refl w).alloc _))).mono ?_
  rintro e w1 ⟨v, rfl, hl, h1⟩
  have U1 : Up w w1 := ((Up.refl w).alloc _).trans h1
  go_wp2
  go_ret2
  exact ⟨v, rfl, Lo.le hl (by simp), U1⟩
set_option maxHeartbeats 400000 in
theorem objects_any (m : Me) (P Q : Addr) (c d : Nat) (s lim : Int) (w : World) (hm : Sits w m P Q c d) (hwf : m.wf) :
    Calls Try.prog 20 #[.agg (mcs m.n P Q c d), .int .i64 s, .int .i64 lim] w (Tolds w (m.tll wObj s lim) (m.tle s lim)) := by
  have ht := Lib.hid (fun (W : World) (hS : Sits W m P Q c d) => told_is m P Q c d s lim 39 wObj W hS hwf Try.call39 obj_w)
  have HM := Lib.hid hm
  clear hm
  generalize m.tll wObj s lim = xs at ht ⊢
  generalize m.tle s lim = er at ht ⊢
  go_enter Try.func20, Try.ntmps20
  go_wp2_with (fail)
  refine (ht.out _ (HM.out.up ((Up.refl w).alloc _))).mono ?_
  rintro e w1 ⟨v, rfl, hl, h1⟩
  have U1 : Up w w1 := ((Up.refl w).alloc _).trans h1
  go_wp2
  go_ret2
  exact ⟨v, rfl, Lo.le hl (by simp), U1⟩

/-- How many words objects have, and fillers. -/
def Me.ow (m : Me) (a : Int) : Int := if m.ate a = 0 ∧ m.att a ≠ 255 then m.wsz a else 0
def Me.fw (m : Me) (a : Int) : Int := if m.ate a = 0 ∧ m.att a = 255 then m.wsz a else 0
def Me.ows (m : Me) : List Int → Int
  | [] => 0
  | a :: r => m.ow a + m.ows r
def Me.fws (m : Me) : List Int → Int
  | [] => 0
  | a :: r => m.fw a + m.fws r
theorem ows_snoc (m : Me) (l : List Int) (a : Int) : m.ows (l ++ [a]) = m.ows l + m.ow a := by
  induction l with
  | nil => simp [Me.ows]
  | cons b r ih => simp only [List.cons_append, Me.ows, ih]; omega
theorem fws_snoc (m : Me) (l : List Int) (a : Int) : m.fws (l ++ [a]) = m.fws l + m.fw a := by
  induction l with
  | nil => simp [Me.fws]
  | cons b r ih => simp only [List.cons_append, Me.fws, ih]; omega
theorem ow_small (m : Me) (a : Int) : 0 ≤ m.ow a ∧ m.ow a ≤ 65536 := by
  unfold Me.ow
  split
  · rename_i h; have := wsz_small h.1; omega
  · omega
theorem fw_small (m : Me) (a : Int) : 0 ≤ m.fw a ∧ m.fw a ≤ 65536 := by
  unfold Me.fw
  split
  · rename_i h; have := wsz_small h.1; omega
  · omega
theorem ows_small (m : Me) (l : List Int) : 0 ≤ m.ows l ∧ m.ows l ≤ 65536 * l.length := by
  induction l with
  | nil => simp [Me.ows]
  | cons b r ih => have := ow_small m b; simp only [Me.ows, List.length_cons]; omega
theorem fws_small (m : Me) (l : List Int) : 0 ≤ m.fws l ∧ m.fws l ≤ 65536 * l.length := by
  induction l with
  | nil => simp [Me.fws]
  | cons b r ih => have := fw_small m b; simp only [Me.fws, List.length_cons]; omega

def WoRel (m : Me) (P Q : Addr) (c d : Nat) (xs : List Int) (k : Nat) (w : World) (u6 u7 i : Value) (wr : World) : Prop :=
  ∃ x : Nat, x ≤ k ∧ i = .int .i64 x ∧ u6 = .int .i64 (m.ows (xs.take x)) ∧ u7 = .int .i64 (m.fws (xs.take x)) ∧ Up w wr ∧ Blk wr w.heap.size 25 (mcs m.n P Q c d)
theorem take_snoc' {xs : List Int} {x : Nat} (h : x < xs.length) : xs.take (x + 1) = xs.take x ++ [xs.getD x 0] := by
  rw [List.take_succ_eq_append_getElem h]
  simp [List.getD, List.getElem?_eq_getElem h]

set_option maxHeartbeats 4000000 in
theorem words_is (m : Me) (P Q : Addr) (c d : Nat) (A : Option Addr) (k cap : Nat) (xs : List Int) (w : World) (hm : Sits w m P Q c d) (hwf : m.wf) (hx : Rd w A k xs) (hu : ∀ x ∈ xs, U64 x) (hk : k ≤ 1000000) :
    Calls Try.prog 15 #[.agg (mcs m.n P Q c d), .slice A k cap] w fun e w' => e = .returned (.tuple #[.int .i64 (m.ows xs), .int .i64 (m.fws xs)]) ∧ Up w w' := by
  have HM := Lib.hid hm
  have HX := Lib.hid hx
  have HU := Lib.hid hu
  have Lx := Lib.hid hx.1
  clear hm hx hu
  go_enter Try.func15, Try.ntmps15
  go_wp2
  go_loopw [6, 7, 14] (fun u6 u7 i wr => WoRel m P Q c d xs k w u6 u7 i wr) (fun _ _ i _ => k - (intOf i).toNat)
  case atStart => exact ⟨0, Nat.zero_le _, rfl, rfl, rfl, (Up.refl _).alloc _, Blk.new w _ _⟩
  case round =>
    obtain ⟨x, hxk, rfl, rfl, rfl, U, D⟩ := hrel
    by_cases hlt : x < k
    · obtain ⟨p, rfl, hcp⟩ := (HX.out.up U).at_ hlt
      have hlx : x < xs.length := by rw [Lx.out]; exact hlt
      have ha : U64 (xs.getD x 0) := HU.out _ (by simp [List.getD, List.getElem?_eq_getElem hlx])
      have T := Lib.hid (take_snoc' hlx)
      have S1 := ows_snoc m (xs.take x) (xs.getD x 0)
      have S2 := fws_snoc m (xs.take x) (xs.getD x 0)
      rw [← T.out] at S1 S2
      have b1 := ows_small m (xs.take x)
      have b2 := fws_small m (xs.take x)
      have bl : (xs.take x).length ≤ 1000000 := by rw [List.length_take]; omega
      have hat := fun (W : World) (hS : Sits W m P Q c d) => at_any m (xs.getD x 0) P Q c d W hS ha hwf
      have so := ow_small m (xs.getD x 0)
      have sf := fw_small m (xs.getD x 0)
      have Dc := D.cell
      generalize xs.getD x 0 = a at hcp hat S1 S2 so sf
      generalize hb1 : m.ows (xs.take x) = o1 at b1 S1
      generalize hb2 : m.fws (xs.take x) = o2 at b2 S2
      clear hb1 hb2 T ha
      by_cases he : m.ate a = 0
      · obtain ⟨hr, hmp⟩ := at_rte he
        have hws := Lib.hid (fun w => words_any (m.att a) (m.atl a) (m.atm a) hmp hr w)
        have hfl := fun w => filler_any (m.att a) (m.atl a) (m.atm a) w
        rw [he] at hat
        have hat := Lib.hid hat
        by_cases ht : m.att a = 255
        · rw [beq_iff_eq.2 ht] at hfl
          have hfl := Lib.hid hfl
          rw [show m.ow a = 0 from if_neg (fun q => q.2 ht)] at S1 so
          rw [show m.fw a = wdn (m.att a) (m.atl a) from if_pos ⟨he, ht⟩] at S2 sf
          have E1 := Lib.hid S1
          have E2 := Lib.hid S2
          clear S1 S2 he ht hr hmp
          generalize m.att a = t at hat hws hfl E2 sf
          generalize m.atl a = l at hat hws hfl E2 sf
          generalize m.atm a = mp at hat hws hfl
          generalize wdn t l = n at hws E2 sf
          go_wp2_with (fail)
          refine (hat.out _ (HM.out.up U)).mono ?_
          rintro e w1 ⟨rfl, h1⟩
          have D1 := (D.up h1).alloc (.cells (hcs t l mp) 33)
          have H1 := Blk.new w1 33 (hcs t l mp)
          have U1 := (U.trans h1).alloc (.cells (hcs t l mp) 33)
          clear h1 Dc D U hcp
          have H1c := H1.cell
          go_wp2_with (fail)
          refine (hfl.out _).mono ?_
          rintro e w2 ⟨rfl, h2⟩
          have D2 := D1.up h2
          have H2c := (H1.up h2).cell
          have U2 := U1.trans h2
          clear h2 D1 H1 U1 H1c
          go_wp2_with (fail)
          refine (hws.out _).mono ?_
          rintro e w3 ⟨rfl, h3⟩
          have D3 := Lib.hid (D2.up h3)
          have U3 := Lib.hid (U2.trans h3)
          clear h3 D2 H2c U2
          go_wp2
          refine ⟨⟨x + 1, by omega, by go_num, by rw [E1.out, Int.add_zero], by rw [E2.out], U3.out, D3.out⟩, by simp [intOf]; omega⟩
        · rw [beq_eq_false_iff_ne.2 ht] at hfl
          have hfl := Lib.hid hfl
          rw [show m.ow a = wdn (m.att a) (m.atl a) from if_pos ⟨he, ht⟩] at S1 so
          rw [show m.fw a = 0 from if_neg (fun q => ht q.2)] at S2 sf
          have E1 := Lib.hid S1
          have E2 := Lib.hid S2
          clear S1 S2 he ht hr hmp
          generalize m.att a = t at hat hws hfl E1 so
          generalize m.atl a = l at hat hws hfl E1 so
          generalize m.atm a = mp at hat hws hfl
          generalize wdn t l = n at hws E1 so
          go_wp2_with (fail)
          refine (hat.out _ (HM.out.up U)).mono ?_
          rintro e w1 ⟨rfl, h1⟩
          have D1 := (D.up h1).alloc (.cells (hcs t l mp) 33)
          have H1 := Blk.new w1 33 (hcs t l mp)
          have U1 := (U.trans h1).alloc (.cells (hcs t l mp) 33)
          clear h1 Dc D U hcp
          have H1c := H1.cell
          go_wp2_with (fail)
          refine (hfl.out _).mono ?_
          rintro e w2 ⟨rfl, h2⟩
          have D2 := D1.up h2
          have H2c := (H1.up h2).cell
          have U2 := U1.trans h2
          clear h2 D1 H1 U1 H1c
          go_wp2_with (fail)
          refine (hws.out _).mono ?_
          rintro e w3 ⟨rfl, h3⟩
          have D3 := Lib.hid (D2.up h3)
          have U3 := Lib.hid (U2.trans h3)
          clear h3 D2 H2c U2
          go_wp2
          refine ⟨⟨x + 1, by omega, by go_num, by rw [E1.out], by rw [E2.out, Int.add_zero], U3.out, D3.out⟩, by simp [intOf]; omega⟩
      · have hb : (m.ate a != 0) = true := bne_iff_ne.mpr he
        rw [show m.ow a = 0 from if_neg (fun q => he q.1)] at S1
        rw [show m.fw a = 0 from if_neg (fun q => he q.1)] at S2
        have E1 := Lib.hid S1
        have E2 := Lib.hid S2
        have hat := Lib.hid hat
        clear S1 S2 he so sf
        generalize m.ate a = z at hat hb
        generalize m.att a = t at hat
        generalize m.atl a = l at hat
        generalize m.atm a = mp at hat
        go_wp2_with (fail)
        refine (hat.out _ (HM.out.up U)).mono ?_
        rintro e w1 ⟨rfl, h1⟩
        have D1 := Lib.hid ((D.up h1).alloc (.cells (hcs t l mp) 33))
        have U1 := Lib.hid ((U.trans h1).alloc (.cells (hcs t l mp) 33))
        clear h1 Dc D U hcp
        go_wp2
        refine ⟨⟨x + 1, by omega, by go_num, by rw [E1.out, Int.add_zero], by rw [E2.out, Int.add_zero], U1.out, D1.out⟩, by simp [intOf]; omega⟩
    · obtain rfl : x = k := by omega
      go_wp2
      go_ret2
      exact ⟨by rw [List.take_of_length_le (by rw [Lx.out]; exact Nat.le_refl _)]; rfl, U⟩
end Go.Proofs.Ytmjadmoadedghaa
