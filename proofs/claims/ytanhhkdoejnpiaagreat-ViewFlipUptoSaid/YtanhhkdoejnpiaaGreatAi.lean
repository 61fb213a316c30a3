/- Package walk: All, Objects, Words, pointers, Reach: contracts. -/
import Derived.Test.YtanhhkdoejnpiaaGreatAh
import Derived.Maps.OwnIn
import Derived.Laws.EntriesVeiled
/-! Of stage 6 -/
namespace Go.Proofs.YtanhhkdoejnpiaaGreat
open Go.ChangeShapes Go.WideShapes Go.ChangeAt Go.RowKit
set_option linter.unusedVariables false
set_option linter.unusedSimpArgs false

/-- A space, thing by thing. -/
def Me.sq (m : Me) (s lim : Int) : List Th := m.seqn s lim (lim.toNat + 1) 0
def Me.vld (m : Me) (s lim : Int) : Prop := (s = 0 ∨ s = 1) ∧ 0 ≤ lim ∧ lim ≤ m.n
instance decVld (m : Me) (s lim : Int) : Decidable (m.vld s lim) := by unfold Me.vld; infer_instance
/-- Its error, and what is told of those that are wanted. -/
def Me.tle (m : Me) (s lim : Int) : Int := if m.vld s lim then ers (m.sq s lim) else 1
def Me.tll (m : Me) (wn : Th → Bool) (s lim : Int) : List Int := if m.tle s lim = 0 then pick wn (m.sq s lim) else []
def wAll (x : Th) : Bool := true
def wObj (x : Th) : Bool := !(x.t == 255)

theorem seqn_len (m : Me) (s lim : Int) : ∀ (f : Nat) (p : Int), (m.seqn s lim f p).length ≤ f
  | 0, _ => Nat.le_refl _
  | f + 1, p => by
    unfold Me.seqn
    split
    · exact Nat.zero_le _
    · split
      · have := seqn_len m s lim f (p + m.wsz (adr s p))
        simp only [List.length_cons]
        omega
      · simp

theorem Lo.le {w : World} {n₀ n₁ : Nat} {v : Value} {xs : List Int} (h : Lo w n₀ v xs) (k : n₁ ≤ n₀) : Lo w n₁ v xs :=
  ⟨h.1, h.2.imp id fun ⟨g, cap, cur, h1, h2, r⟩ => ⟨g, cap, cur, h1, Nat.le_trans k h2, r⟩⟩
/-- How many words objects have, and fillers. -/
def Me.ow (m : Me) (a : Int) : Int := if m.ate a = 0 ∧ m.att a ≠ 255 then m.wsz a else 0
def Me.fw (m : Me) (a : Int) : Int := if m.ate a = 0 ∧ m.att a = 255 then m.wsz a else 0
def Me.ows (m : Me) : List Int → Int
  | [] => 0
  | a :: r => m.ow a + m.ows r
def Me.fws (m : Me) : List Int → Int
  | [] => 0
  | a :: r => m.fw a + m.fws r
theorem ows_snoc (m : Me) (l : List Int) (a : Int) : m.ows (l ++ [a]) = m.ows l + m.ow a := by
  induction l with
  | nil => simp [Me.ows]
  | cons b r ih => simp only [List.cons_append, Me.ows, ih]; omega
theorem fws_snoc (m : Me) (l : List Int) (a : Int) : m.fws (l ++ [a]) = m.fws l + m.fw a := by
  induction l with
  | nil => simp [Me.fws]
  | cons b r ih => simp only [List.cons_append, Me.fws, ih]; omega
theorem ow_small (m : Me) (a : Int) : 0 ≤ m.ow a ∧ m.ow a ≤ 65536 := by
  unfold Me.ow
  split
  · rename_i h; have := wsz_small h.1; omega
  · omega
theorem fw_small (m : Me) (a : Int) : 0 ≤ m.fw a ∧ m.fw a ≤ 65536 := by
  unfold Me.fw
  split
  · rename_i h; have := wsz_small h.1; omega
  · omega
theorem ows_small (m : Me) (l : List Int) : 0 ≤ m.ows l ∧ m.ows l ≤ 65536 * l.length := by
  induction l with
  | nil => simp [Me.ows]
  | cons b r ih => have := ow_small m b; simp only [Me.ows, List.length_cons]; omega
theorem fws_small (m : Me) (l : List Int) : 0 ≤ m.fws l ∧ m.fws l ≤ 65536 * l.length := by
  induction l with
  | nil => simp [Me.fws]
  | cons b r ih => have := fw_small m b; simp only [Me.fws, List.length_cons]; omega

def WoRel (m : Me) (P Q : Addr) (c d : Nat) (xs : List Int) (k : Nat) (w : World) (u6 u7 i : Value) (wr : World) : Prop :=
  ∃ x : Nat, x ≤ k ∧ i = .int .i64 x ∧ u6 = .int .i64 (m.ows (xs.take x)) ∧ u7 = .int .i64 (m.fws (xs.take x)) ∧ Up w wr ∧ Blk wr w.heap.size 25 (mcs m.n P Q c d)
theorem take_snoc' {xs : List Int} {x : Nat} (h : x < xs.length) : xs.take (x + 1) = xs.take x ++ [xs.getD x 0] := by
  rw [List.take_succ_eq_append_getElem h]
  simp [List.getD, List.getElem?_eq_getElem h]

set_option maxHeartbeats 4000000 in
theorem words_is (m : Me) (P Q : Addr) (c d : Nat) (A : Option Addr) (k cap : Nat) (xs : List Int) (w : World) (hm : Sits w m P Q c d) (hwf : m.wf) (hx : Rd w A k xs) (hu : ∀ x ∈ xs, U64 x) (hk : k ≤ 1048576) :
    Calls Tryz.prog 51 #[.agg (mcs m.n P Q c d), .slice A k cap] w fun e w' => e = .returned (.tuple #[.int .i64 (m.ows xs), .int .i64 (m.fws xs)]) ∧ Up w w' := by
  have HM := Lib.hid hm
  have HX := Lib.hid hx
  have HU := Lib.hid hu
  have Lx := Lib.hid hx.1
  clear hm hx hu
  go_enter Tryz.func51, Tryz.ntmps51
  go_wp2
  go_loopw [6, 7, 14] (fun u6 u7 i wr => WoRel m P Q c d xs k w u6 u7 i wr) (fun _ _ i _ => k - (intOf i).toNat)
  case atStart => exact ⟨0, Nat.zero_le _, rfl, rfl, rfl, (Up.refl _).alloc _, Blk.new w _ _⟩
  case round =>
    obtain ⟨x, hxk, rfl, rfl, rfl, U, D⟩ := hrel
    by_cases hlt : x < k
    · obtain ⟨p, rfl, hcp⟩ := (HX.out.up U).at_ hlt
      have hlx : x < xs.length := by rw [Lx.out]; exact hlt
      have ha : U64 (xs.getD x 0) := HU.out _ (by simp [List.getD, List.getElem?_eq_getElem hlx])
      have T := Lib.hid (take_snoc' hlx)
      have S1 := ows_snoc m (xs.take x) (xs.getD x 0)
      have S2 := fws_snoc m (xs.take x) (xs.getD x 0)
      rw [← T.out] at S1 S2
      have b1 := ows_small m (xs.take x)
      have b2 := fws_small m (xs.take x)
      have bl : (xs.take x).length ≤ 1048576 := by rw [List.length_take]; omega
      have hat := fun (W : World) (hS : Sits W m P Q c d) => at_any m (xs.getD x 0) P Q c d W hS ha hwf
      have so := ow_small m (xs.getD x 0)
      have sf := fw_small m (xs.getD x 0)
      have Dc := D.cell
      generalize xs.getD x 0 = a at hcp hat S1 S2 so sf
      generalize hb1 : m.ows (xs.take x) = o1 at b1 S1
      generalize hb2 : m.fws (xs.take x) = o2 at b2 S2
      clear hb1 hb2 T ha
      by_cases he : m.ate a = 0
      · obtain ⟨hr, hmp⟩ := at_rte he
        have hws := Lib.hid (fun w => words_any (m.att a) (m.atl a) (m.atm a) hmp hr w)
        have hfl := fun w => filler_any (m.att a) (m.atl a) (m.atm a) w
        rw [he] at hat
        have hat := Lib.hid hat
        by_cases ht : m.att a = 255
        · rw [beq_iff_eq.2 ht] at hfl
          have hfl := Lib.hid hfl
          rw [show m.ow a = 0 from if_neg (fun q => q.2 ht)] at S1 so
          rw [show m.fw a = wdn (m.att a) (m.atl a) from if_pos ⟨he, ht⟩] at S2 sf
          have E1 := Lib.hid S1
          have E2 := Lib.hid S2
          clear S1 S2 he ht hr hmp
          generalize m.att a = t at hat hws hfl E2 sf
          generalize m.atl a = l at hat hws hfl E2 sf
          generalize m.atm a = mp at hat hws hfl
          generalize wdn t l = n at hws E2 sf
          go_wp2_with (fail)
          refine (hat.out _ (HM.out.up U)).mono ?_
          rintro e w1 ⟨rfl, h1⟩
          have D1 := (D.up h1).alloc (.cells (hcs t l mp) 69)
          have H1 := Blk.new w1 69 (hcs t l mp)
          have U1 := (U.trans h1).alloc (.cells (hcs t l mp) 69)
          clear h1 Dc D U hcp
          have H1c := H1.cell
          go_wp2_with (fail)
          refine (hfl.out _).mono ?_
          rintro e w2 ⟨rfl, h2⟩
          have D2 := D1.up h2
          have H2c := (H1.up h2).cell
          have U2 := U1.trans h2
          clear h2 D1 H1 U1 H1c
          go_wp2_with (fail)
          refine (hws.out _).mono ?_
          rintro e w3 ⟨rfl, h3⟩
          have D3 := Lib.hid (D2.up h3)
          have U3 := Lib.hid (U2.trans h3)
          clear h3 D2 H2c U2
          go_wp2
          refine ⟨⟨x + 1, by omega, by go_num, by rw [E1.out, Int.add_zero], by rw [E2.out], U3.out, D3.out⟩, by simp [intOf]; omega⟩
        · rw [beq_eq_false_iff_ne.2 ht] at hfl
          have hfl := Lib.hid hfl
          rw [show m.ow a = wdn (m.att a) (m.atl a) from if_pos ⟨he, ht⟩] at S1 so
          rw [show m.fw a = 0 from if_neg (fun q => ht q.2)] at S2 sf
          have E1 := Lib.hid S1
          have E2 := Lib.hid S2
          clear S1 S2 he ht hr hmp
          generalize m.att a = t at hat hws hfl E1 so
          generalize m.atl a = l at hat hws hfl E1 so
          generalize m.atm a = mp at hat hws hfl
          generalize wdn t l = n at hws E1 so
          go_wp2_with (fail)
          refine (hat.out _ (HM.out.up U)).mono ?_
          rintro e w1 ⟨rfl, h1⟩
          have D1 := (D.up h1).alloc (.cells (hcs t l mp) 69)
          have H1 := Blk.new w1 69 (hcs t l mp)
          have U1 := (U.trans h1).alloc (.cells (hcs t l mp) 69)
          clear h1 Dc D U hcp
          have H1c := H1.cell
          go_wp2_with (fail)
          refine (hfl.out _).mono ?_
          rintro e w2 ⟨rfl, h2⟩
          have D2 := D1.up h2
          have H2c := (H1.up h2).cell
          have U2 := U1.trans h2
          clear h2 D1 H1 U1 H1c
          go_wp2_with (fail)
          refine (hws.out _).mono ?_
          rintro e w3 ⟨rfl, h3⟩
          have D3 := Lib.hid (D2.up h3)
          have U3 := Lib.hid (U2.trans h3)
          clear h3 D2 H2c U2
          go_wp2
          refine ⟨⟨x + 1, by omega, by go_num, by rw [E1.out], by rw [E2.out, Int.add_zero], U3.out, D3.out⟩, by simp [intOf]; omega⟩
      · have hb : (m.ate a != 0) = true := bne_iff_ne.mpr he
        rw [show m.ow a = 0 from if_neg (fun q => he q.1)] at S1
        rw [show m.fw a = 0 from if_neg (fun q => he q.1)] at S2
        have E1 := Lib.hid S1
        have E2 := Lib.hid S2
        have hat := Lib.hid hat
        clear S1 S2 he so sf
        generalize m.ate a = z at hat hb
        generalize m.att a = t at hat
        generalize m.atl a = l at hat
        generalize m.atm a = mp at hat
        go_wp2_with (fail)
        refine (hat.out _ (HM.out.up U)).mono ?_
        rintro e w1 ⟨rfl, h1⟩
        have D1 := Lib.hid ((D.up h1).alloc (.cells (hcs t l mp) 69))
        have U1 := Lib.hid ((U.trans h1).alloc (.cells (hcs t l mp) 69))
        clear h1 Dc D U hcp
        go_wp2
        refine ⟨⟨x + 1, by omega, by go_num, by rw [E1.out, Int.add_zero], by rw [E2.out, Int.add_zero], U1.out, D1.out⟩, by simp [intOf]; omega⟩
    · obtain rfl : x = k := by omega
      go_wp2
      go_ret2
      exact ⟨by rw [List.take_of_length_le (by rw [Lx.out]; exact Nat.le_refl _)]; rfl, U⟩

end Go.Proofs.YtanhhkdoejnpiaaGreat
/-! Of stage 6 -/
namespace Go.Proofs.YtanhhkdoejnpiaaGreat
open Go.ChangeShapes Go.WideShapes Go.ChangeAt Go.RowKit Go.Shelf
set_option linter.unusedVariables false
set_option linter.unusedSimpArgs false
attribute [local go_sem] Oper.semAt_some

/-- What an object's pointers are, in order. -/
def Me.ptv (m : Me) (a : Int) : List Int := (pts (m.atl a) (m.atm a)).map fun i : Nat => m.getv a i
theorem pts_fok {m : Me} {a : Int} {i : Nat} (h : i ∈ pts (m.atl a) (m.atm a)) : m.fok a i := by
  have hp : ptb (m.atl a) (m.atm a) i = true := (List.mem_filter.1 h).2
  unfold ptb at hp
  rw [Bool.and_eq_true, Bool.and_eq_true] at hp
  obtain ⟨h0, h1, h2⟩ := hp
  have h0 := of_decide_eq_true h0
  have h1 := of_decide_eq_true h1
  have hk : m.atok a := by
    by_cases hk : m.atok a
    · exact hk
    · rw [(at_no hk).2.1] at h1; omega
  have ht : m.att a ≠ 255 := fun ht => by
    obtain ⟨e1, e2, e3⟩ := at_of hk
    have := (rte_small (mpw_nn _) (atok_rte hk)).2.2.2.2.2
    rw [e1] at ht
    have hz : m.atm a = 0 := by rw [e3]; omega
    rw [hz] at h2
    simp at h2
  exact ⟨kne_0.2 ⟨hk, ht⟩, decide_eq_true ⟨h0, h1⟩⟩
theorem atm_65535 (m : Me) (a : Int) : m.atm a ≤ 65535 := by
  by_cases hk : m.atok a
  · rw [(at_of hk).2.2]
    have := (rte_small (mpw_nn _) (atok_rte hk)).2.2.2.2.1
    omega
  · rw [(at_no hk).2.2]; decide
theorem ptv_len (m : Me) (a : Int) : (m.ptv a).length ≤ 16 := by
  unfold Me.ptv
  rw [List.length_map]
  exact pts_len _ _ (atm_nn m a) (atm_65535 m a)
theorem getv_u64 {m : Me} (hwf : m.wf) (a i : Int) : U64 (m.getv a i) := by
  unfold Me.getv
  split
  · exact hwf.ld _
  · exact u64_0
theorem ptv_u64 {m : Me} (hwf : m.wf) (a : Int) : ∀ x ∈ m.ptv a, U64 x := by
  intro x hx
  obtain ⟨i, _, rfl⟩ := List.mem_map.1 hx
  exact getv_u64 hwf a i

theorem pointers_any (n : Nat) (P Q : Addr) (c d : Nat) (a : Int) (w : World) :
    Calls Tryz.prog 106 #[.agg (mcs n P Q c d), .int .u64 a] w fun e w' => e = .returned (.func (.func 137) #[] #[bx w.heap.size, bx (w.heap.size + 1)])
      ∧ w' = (w.alloc (.cells (mcs n P Q c d) 25)).alloc (.cells #[.int .u64 a] 67) := by
  go_enter Tryz.func106, Tryz.ntmps106
  go_wp2
  go_ret
  exact ⟨rfl, rfl⟩

/-- A slice reads as a list of places of fields, in a block that is known whole. -/
def RdI (w : World) (A : Option Addr) (xs : List Nat) : Prop := 0 < xs.length → ∃ g cs, A = some ⟨g, 0, none⟩ ∧ Blk w g 3 cs ∧ ∀ (j x : Nat), xs[j]? = some x → cs[j]? = some (.int .i64 x)
theorem RdI.to {w w' : World} {A : Option Addr} {xs : List Nat} (h : RdI w A xs) (k : ∀ g cs, Blk w g 3 cs → Blk w' g 3 cs) : RdI w' A xs := fun q => by
  obtain ⟨g, cs, e, hb, hx⟩ := h q
  exact ⟨g, cs, e, k _ _ hb, hx⟩
theorem lst_rd {w : World} {n₀ : Nat} {v : Value} {xs : List Nat} (h : w.ownsRow n₀ 3 1 v xs.length (xs.map fun x : Nat => Value.int .i64 x)) : ∃ A cap, v = .slice A xs.length cap ∧ RdI w A xs := by
  obtain ⟨hl, hc⟩ := h
  rcases hc with ⟨rfl, h0⟩ | ⟨g, cap, cur, rfl, hb, hg, h1, h2, h3, h4⟩
  · exact ⟨none, 0, by rw [h0], fun q => by omega⟩
  · refine ⟨_, _, rfl, fun q => ⟨g, cur, rfl, hg, fun j x hx => ?_⟩⟩
    have hj : (xs.map fun x : Nat => Value.int .i64 x)[j]? = some (.int .i64 x) := by simp [hx]
    rw [← h4, List.getElem?_take] at hj
    have hlt : j < xs.length := by
      rcases Nat.lt_or_ge j xs.length with q | q
      · exact q
      · rw [List.getElem?_eq_none q] at hx; cases hx
    rw [if_pos (by omega)] at hj
    simpa using hj
theorem RdI.at_ {w : World} {A : Option Addr} {xs : List Nat} (h : RdI w A xs) {j : Nat} (hj : j < xs.length) : ∃ g, A = some ⟨g, 0, none⟩ ∧ w.cell? ⟨g, j, none⟩ = some (.int .i64 (xs.getD j 0 : Nat)) := by
  obtain ⟨g, cs, e, hb, hx⟩ := h (by omega)
  refine ⟨g, e, ?_⟩
  rw [hb.cell j]
  exact hx j _ (by simp [List.getD, List.getElem?_eq_getElem hj])

theorem range_pre {x n : Nat} (h : x ≤ n) : List.range x <+: List.range n := by
  obtain ⟨d, rfl⟩ := Nat.le.dest h
  rw [List.range_add]
  exact List.prefix_append _ _
theorem range_get (l : List Int) : (List.range l.length).map (fun x => l.getD x 0) = l := by
  apply List.ext_getElem?
  intro i
  simp only [List.getElem?_map]
  rcases Nat.lt_or_ge i l.length with h | h
  · simp [List.getElem?_range h, List.getD, List.getElem?_eq_getElem h]
  · rw [List.getElem?_eq_none (by simpa using h), List.getElem?_eq_none h]; rfl
set_option maxRecDepth 100000 in
set_option maxHeartbeats 4000000 in
theorem pointers_stops (n : Nat) (hn : 1 ≤ n) (m : Me) (a : Int) (P Q : Addr) (c d Bm Ba : Nat) (w : World) (Kp : World → World → Prop) (Cp : World → Prop) (hwf : m.wf) (ha : U64 a)
    (hC1 : ∀ A B, Cp A → Up A B → Cp B) (hC2 : ∀ A B, Cp A → Kp A B → Cp B) (hC3 : ∀ A, Cp A → Box A Bm m P Q c d ∧ Blk A Ba 67 #[.int .u64 a])
    (hK : ∀ A B g cs, Cp A → Kp A B → Blk A g 3 cs → Blk B g 3 cs)
    (hc : Cp w) :
    SeqStopsK Fence.wide n Tryz.prog 137 #[bx Bm, bx Ba] (fun x : Nat => #[Value.int .u64 ((m.ptv a).getD x 0)]) Kp (fun ys => ys = List.range (m.ptv a).length) (fun pre => pre <+: List.range (m.ptv a).length) (m.ptv a).length w := by
  intro l J Jx W hW hJ hJx hY h0
  have hC := hC1 _ _ hc hW
  have hat := Lib.hid (fun (W : World) (hS : Sits W m P Q c d) => at_any m a P Q c d W hS ha hwf)
  have hpt := Lib.hid (fun w => ptrs_any (m.att a) (m.atl a) (m.atm a) (atm_nn m a) (atm_65535 m a) w)
  have hgt := Lib.hid (fun (i : Nat) (hi : i ∈ pts (m.atl a) (m.atm a)) (W : World) (hS : Sits W m P Q c d) => by
    have h := get_any m a i P Q c d W hS ha hwf
    rw [gete_0.2 (pts_fok hi)] at h
    exact h)
  have hPV : m.ptv a = (pts (m.atl a) (m.atm a)).map fun i : Nat => m.getv a i := rfl
  obtain ⟨ps, hps⟩ : ∃ ps, pts (m.atl a) (m.atm a) = ps := ⟨_, rfl⟩
  obtain ⟨all, hall⟩ : ∃ all, m.ptv a = all := ⟨_, rfl⟩
  have hb16 : ps.length ≤ 16 := by rw [← hps]; exact pts_len _ _ (atm_nn m a) (atm_65535 m a)
  rw [hps] at hgt hPV hpt
  rw [hall] at hY hPV ⊢
  have HPV := Lib.hid hPV
  have hlen : all.length = ps.length := by rw [hPV, List.length_map]
  have HL := Lib.hid hlen
  generalize m.att a = t at hat hpt
  generalize m.atl a = lo at hat hpt
  generalize m.atm a = mp at hat hpt
  generalize m.ate a = z at hat
  clear hPV hps hall hc hlen
  have hcM := (hC3 _ hC).1.1.cell
  have hcA := (hC3 _ hC).2.cell
  refine callsIn_of_wp Tryz.func137 rfl trivial ?_ rfl
  simp only [Tryz.ntmps137, List.size_toArray, List.length_cons, List.length_nil, Nat.reduceAdd, Nat.reduceSub, Array.replicate_succ, Array.replicate_zero, List.push_toArray, List.append_toArray, List.nil_append, List.cons_append]
  gi_wp2_with (fail)
  refine ⟨trivial, ?_⟩
  refine (callsIn_wide.2 (hat.out _ (hC3 _ hC).1.2)).mono ?_
  rintro e w1 ⟨rfl, h1⟩
  have U1 := h1.alloc (.cells (hcs t lo mp) 69)
  have H1c := (Blk.new w1 69 (hcs t lo mp)).cell
  clear h1 hcM hcA hat
  gi_wp2_with (fail)
  refine ⟨trivial, ?_⟩
  refine (callsIn_wide.2 (hpt.out _)).mono ?_
  rintro e w2 ⟨v, rfl, hrow, h2⟩
  obtain ⟨A, cap, rfl, hrd⟩ := lst_rd hrow
  have U2 := U1.trans h2
  have C2 := Lib.hid (hC1 _ _ hC U2)
  have J2 := Lib.hid (hJ _ _ _ none h0 U2.gb (fun r e => by cases e))
  have R2 := Lib.hid hrd
  clear U1 H1c hrow h2 hpt hC h0 hrd U2
  gi_wp2_with (fail)
  gi_loopw [20] (fun i wr => ∃ x : Nat, x ≤ ps.length ∧ i = .int .i64 x ∧ J (List.range x) wr ∧ Cp wr ∧ RdI wr A ps) (fun i _ => ps.length - (intOf i).toNat)
  case atStart => exact ⟨0, Nat.zero_le _, rfl, J2.out, C2.out, R2.out⟩
  case round =>
    obtain ⟨x, hx, rfl, hJk, hCk, hRk⟩ := hrel
    clear J2 C2 R2
    by_cases hlt : x < ps.length
    · obtain ⟨g, rfl, hcell⟩ := hRk.at_ hlt
      have hla : x < all.length := by rw [HL.out]; exact hlt
      have hgx := Lib.hid (hgt.out _ (List.getElem_mem hlt))
      have e1 : ps.getD x 0 = ps[x] := by simp [List.getD, List.getElem?_eq_getElem hlt]
      have hv : m.getv a (ps[x] : Nat) = all.getD x 0 := by simp [HPV.out, List.getD, List.getElem?_eq_getElem hlt]
      rw [e1] at hcell
      generalize ps[x] = i at hgx hv hcell
      rw [hv] at hgx
      obtain ⟨b, hbv⟩ : ∃ b, all.getD x 0 = b := ⟨_, rfl⟩
      have HB := Lib.hid hbv
      rw [hbv] at hgx
      clear e1 hv hbv
      have hcM := (hC3 _ hCk).1.1.cell
      have hcA := (hC3 _ hCk).2.cell
      generalize m.getb a (i : Nat) = pb at hgx
      have CK := Lib.hid hCk
      have JK := Lib.hid hJk
      have RK := Lib.hid hRk
      clear hCk hJk hRk
      gi_wp2_with (fail)
      refine ⟨trivial, ?_⟩
      refine (callsIn_wide.2 (hgx.out _ (hC3 _ CK.out).1.2)).mono ?_
      rintro e w3 ⟨rfl, h3⟩
      have C3 := Lib.hid (hC1 _ _ CK.out h3)
      have J3 := hJ _ _ _ none JK.out h3.gb (fun r e => by cases e)
      have R3 := Lib.hid (RK.out.to (fun g cs hb => hb.up h3))
      clear CK JK RK hcM hcA hcell h3 hgx
      obtain ⟨fn, tmps, assign, body, hy, hR⟩ := hY (List.range x) x w3 J3 (by rw [List.length_range]; exact hla)
      rw [HB.out] at hy
      clear J3
      gi_wp2
      refine hR.mono ?_
      rintro e W3 (⟨rfl, hJ3, hk3⟩ | ⟨rfl, hJx3⟩)
      · have C4 := Lib.hid (hC2 _ _ C3.out hk3)
        have R4 := Lib.hid (R3.out.to (fun g cs hb => hK _ _ _ _ C3.out hk3 hb))
        have J4 := Lib.hid hJ3
        clear C3 R3 hJ3 hk3
        gi_wp2
        go_roundw
        case rel => exact ⟨x + 1, by omega, by go_num, by rw [List.range_succ]; exact J4.out, C4.out, R4.out⟩
        case measure => simp [intOf]; omega
      · gi_wp2
        refine bodyPost_ret (results_none rfl _ _ _) rfl ?_
        exact ⟨⟨_, rfl⟩, .inr ⟨_, by rw [← List.range_succ]; exact range_pre (by omega), hJx3⟩⟩
    · obtain rfl : x = ps.length := by omega
      gi_wp2
      go_end0
      exact ⟨⟨_, rfl⟩, .inl ⟨_, by rw [HL.out], hJk⟩⟩

end Go.Proofs.YtanhhkdoejnpiaaGreat
/-! Of stage 6 -/
namespace Go.Proofs.YtanhhkdoejnpiaaGreat
open Go.ChangeShapes Go.WideShapes Go.ChangeAt Go.RowKit Go.Shelf Go.Maps
set_option linter.unusedVariables false
set_option linter.unusedSimpArgs false

/-! ### What is reached -/
/-- An object, and what its pointers lead to, if it isn't told yet. -/
def Me.vis (m : Me) : Nat → Int → List Int → List Int
  | 0, _, out => out
  | f + 1, a, out => if m.real a = true ∧ a ∉ out then (m.ptv a).foldl (fun o p => m.vis f p o) (out ++ [a]) else out
/-- The addresses of all objects. -/
def Me.reals (m : Me) : List Int := ((List.range m.n).map (fun i : Nat => adr 0 i) ++ (List.range m.n).map (fun i : Nat => adr 1 i)).filter m.real
/-- How many aren't told yet. -/
def Me.lft (m : Me) (out : List Int) : Nat := (m.reals.filter (fun a => decide (a ∉ out))).length
theorem real_mem {m : Me} {a : Int} (h : m.real a = true) : a ∈ m.reals := by
  have hk := (kne_0.1 (of_decide_eq_true h)).1
  obtain ⟨hb, hn⟩ := hk.1
  have e := adr_of hb
  have hp := whp_nn a
  refine List.mem_filter.2 ⟨?_, h⟩
  rw [List.mem_append]
  rcases whs_01 a with q | q
  · exact .inl (List.mem_map.2 ⟨(whp a).toNat, List.mem_range.2 (by omega), by unfold adr; omega⟩)
  · exact .inr (List.mem_map.2 ⟨(whp a).toNat, List.mem_range.2 (by omega), by unfold adr; omega⟩)
theorem real_u64 {m : Me} {a : Int} (h : m.real a = true) : U64 a := by
  have hk := (kne_0.1 (of_decide_eq_true h)).1
  obtain ⟨hb, hn⟩ := hk.1
  have e := adr_of hb
  have hp := whp_nn a
  have h2 : whp a ≤ 4294967295 := by unfold whp; split <;> omega
  rcases whs_01 a with q | q <;> (unfold U64; omega)
theorem flt_le {l : List Int} {p q : Int → Bool} (h : ∀ x, p x = true → q x = true) : (l.filter p).length ≤ (l.filter q).length := by
  induction l with
  | nil => simp
  | cons x r ih =>
    simp only [List.filter_cons]
    cases hp : p x
    · cases hq : q x
      · simpa using ih
      · simp only [Bool.false_eq_true, if_false, if_true, List.length_cons]; omega
    · rw [h x hp]
      simp only [if_true, List.length_cons]; omega
theorem flt_lt {l : List Int} {p q : Int → Bool} (h : ∀ x, p x = true → q x = true) {a : Int} (ha : a ∈ l) (h0 : p a = false) (h1 : q a = true) : (l.filter p).length < (l.filter q).length := by
  induction l with
  | nil => cases ha
  | cons x r ih =>
    simp only [List.filter_cons]
    rcases List.mem_cons.1 ha with rfl | ha
    · rw [h0, h1]
      have := flt_le (l := r) h
      simp only [Bool.false_eq_true, if_false, if_true, List.length_cons]; omega
    · have := ih ha
      cases hp : p x
      · cases hq : q x
        · simpa using this
        · simp only [Bool.false_eq_true, if_false, if_true, List.length_cons]; omega
      · rw [h x hp]
        simp only [if_true, List.length_cons]; omega
theorem lft_mono {m : Me} {o o' : List Int} (h : ∀ x ∈ o, x ∈ o') : m.lft o' ≤ m.lft o :=
  flt_le (fun x hx => decide_eq_true (fun q => of_decide_eq_true hx (h x q)))
theorem lft_snoc {m : Me} {o : List Int} {a : Int} (h : m.real a = true) (k : a ∉ o) : m.lft (o ++ [a]) < m.lft o :=
  flt_lt (fun x hx => decide_eq_true (fun q => of_decide_eq_true hx (by simp [q]))) (real_mem h) (decide_eq_false (fun q => q (by simp))) (decide_eq_true k)
theorem lft_le (m : Me) (o : List Int) : m.lft o ≤ 2 * m.n := by
  unfold Me.lft
  refine Nat.le_trans (List.length_filter_le _ _) ?_
  unfold Me.reals
  refine Nat.le_trans (List.length_filter_le _ _) ?_
  simp
  omega
theorem vis_yes {m : Me} {f : Nat} {a : Int} {out : List Int} (h : m.real a = true) (k : a ∉ out) : m.vis (f + 1) a out = (m.ptv a).foldl (fun o p => m.vis f p o) (out ++ [a]) := if_pos ⟨h, k⟩
theorem vis_no {m : Me} {f : Nat} {a : Int} {out : List Int} (h : m.real a = false ∨ a ∈ out) : m.vis (f + 1) a out = out := if_neg (fun q => by
  rcases h with h | h
  · rw [h] at q; cases q.1
  · exact q.2 h)
theorem fold_pre {g : List Int → Int → List Int} (h : ∀ o p, o <+: g o p) (ps : List Int) : ∀ o, o <+: ps.foldl g o := by
  induction ps with
  | nil => exact fun o => List.prefix_rfl
  | cons p r ih => exact fun o => (h o p).trans (ih _)
theorem vis_pre (m : Me) : ∀ (f : Nat) (a : Int) (out : List Int), out <+: m.vis f a out
  | 0, _, _ => List.prefix_rfl
  | f + 1, a, out => by
    unfold Me.vis
    split
    · exact (List.prefix_append _ _).trans (fold_pre (fun o p => vis_pre m f p o) _ _)
    · exact List.prefix_rfl

/-! ### Worlds -/
theorem law64 : Keyed Tryz.prog 67 := int_keyed Tryz.underlying67
theorem zeroS (w : World) : (zeroValue 150).run Tryz.prog w = .ok (.agg #[]) w := by kernel_rfl
theorem wf_of_u64 {a : Int} (h : U64 a) : (Lit.int .u64 a).wf = true := by
  have e : IntKind.u64.min = 0 := by decide
  have e2 : IntKind.u64.max = 18446744073709551615 := by decide
  simp [Lit.wf, e, e2]
  exact h
theorem key_of {a : Int} (h : U64 a) : keyOf Tryz.prog 67 (.int .u64 a) = some (.int .u64 a) := keyOf_int_mk Tryz.underlying67 (wf_of_u64 h)
/-- A set of addresses. -/
def setD (out : List Int) : DataW Unit := setOf (.agg []) (out.map (Lit.int .u64))
theorem setD_snoc (out : List Int) (a : Int) : setD (out ++ [a]) = (setD out).put (.int .u64 a) (.agg []) := by
  unfold setD
  rw [List.map_append]
  exact setOf_snoc _ _ _
theorem setD_has (out : List Int) (a : Int) : Maps.has (setD out) (.int .u64 a) = decide (a ∈ out) := by
  unfold setD
  rw [has_setOf]
  · induction out with
    | nil => simp
    | cons b r ih =>
      have hk : (Lit.int .u64 b).sameKey (Lit.int .u64 a) = decide (b = a) := by simp [Lit.sameKey]
      rw [List.map_cons, List.any_cons, ih, hk]
      by_cases h : b = a
      · subst h; simp
      · have : ¬ a = b := fun q => h q.symm
        simp [h, this]
  · intro x hx
    obtain ⟨y, _, rfl⟩ := List.mem_map.1 hx
    trivial

/-- The blocks that follow writes. -/
def Wr (Bp Bl : Nat) (A : World) (k : Nat) : Prop := k = Bp ∨ k = Bl ∨ ∃ v, Boxed A Bl 22 v ∧ v.ownBlock = some k
def StL (n₀ Bp Bl : Nat) (A : World) : Prop := (∃ v xs, Boxed A Bl 22 v ∧ Lo A n₀ v xs) ∧ ∃ o, A.heap[Bp]? = some o ∧ o.isCells = false
theorem boxed_one {A : World} {B : Nat} {t : TypeId} {v v' : Value} (h : Boxed A B t v) (k : Boxed A B t v') : v = v' := by
  unfold Boxed at h k
  rw [h] at k
  injection k with k
  injection k with k
  simpa using k
/-- What a call of follow keeps: what lay below, and all cells but those that it writes. -/
structure Kc (n₀ Bp Bl : Nat) (A B : World) : Prop where
  b : Below n₀ A B
  s : StL n₀ Bp Bl A → StL n₀ Bp Bl B
  k : StL n₀ Bp Bl A → ∀ k o, A.heap[k]? = some o → o.isCells = true → ¬ Wr Bp Bl A k → B.heap[k]? = some o ∧ ¬ Wr Bp Bl B k
theorem Kc.t {n₀ Bp Bl : Nat} {A B C : World} (h : Kc n₀ Bp Bl A B) (k : Kc n₀ Bp Bl B C) : Kc n₀ Bp Bl A C :=
  ⟨h.b.trans k.b, fun q => k.s (h.s q), fun q i o hi ho hw => by
    obtain ⟨h1, h2⟩ := h.k q i o hi ho hw
    exact k.k (h.s q) i o h1 ho h2⟩
theorem Kc.refl (n₀ Bp Bl : Nat) (A : World) : Kc n₀ Bp Bl A A := ⟨Below.refl _ _, id, fun _ _ _ h _ w => ⟨h, w⟩⟩
theorem lt_of_get {A : World} {k : Nat} {o : Obj} (h : A.heap[k]? = some o) : k < A.heap.size := (Array.getElem?_eq_some_iff.1 h).1
theorem Kc.up {n₀ Bp Bl : Nat} {A B : World} (h : Up A B) (hn : n₀ ≤ A.heap.size) : Kc n₀ Bp Bl A B := by
  refine ⟨h.bel hn, fun ⟨⟨v, xs, hv, hl⟩, o, ho, hc⟩ => ⟨⟨v, xs, Blk.up hv h, hl.up h⟩, o, (h.block _ (lt_of_get ho)).trans ho, hc⟩, fun ⟨⟨v, xs, hv, hl⟩, _⟩ k o hk ho hw => ⟨(h.block _ (lt_of_get hk)).trans hk, fun q => hw ?_⟩⟩
  rcases q with q | q | ⟨v', hv', q⟩
  · exact .inl q
  · exact .inr (.inl q)
  · have : v = v' := boxed_one (show Boxed B Bl _ v from Blk.up hv h) hv'
    subst this
    exact .inr (.inr ⟨v, hv, q⟩)
theorem Kc.map {n₀ Bp Bl : Nat} {A B : World} (h : A.grownBy B (some Bp)) (hn : n₀ ≤ A.heap.size) (h0 : n₀ ≤ Bp) (hne : Bl ≠ Bp) (hB : ∃ o, B.heap[Bp]? = some o ∧ o.isCells = false) : Kc n₀ Bp Bl A B := by
  have hbl : ∀ {v}, Boxed A Bl 22 v → Boxed B Bl 22 v := fun hv => hv.kept h (fun e => hne (by cases e; rfl))
  refine ⟨(Below.refl n₀ A).grown h hn (fun k e => by cases e; exact h0), fun ⟨⟨v, xs, hv, hl⟩, o, ho, hc⟩ => ⟨⟨v, xs, hbl hv, World.ownsRow.kept hl h ?_⟩, hB⟩, fun ⟨⟨v, xs, hv, hl⟩, _⟩ k o hk ho hw => ⟨(h.block k (lt_of_get hk) (fun e => hw (.inl (by cases e; rfl)))).trans hk, fun q => hw ?_⟩⟩
  · refine .inr (fun e => ?_)
    rcases hl.2 with ⟨rfl, _⟩ | ⟨g, cap, cur, rfl, _, hg, _⟩
    · simp [Value.ownBlock] at e
    · obtain rfl : g = Bp := by simpa [Value.ownBlock] using e
      rw [hg] at ho
      cases ho
      cases hc
  · rcases q with q | q | ⟨v', hv', q⟩
    · exact .inl q
    · exact .inr (.inl q)
    · have : v = v' := boxed_one (hbl hv) hv'
      subst this
      exact .inr (.inr ⟨v, hv, q⟩)
theorem Kc.app {n₀ Bp Bl : Nat} {A w1 : World} {v v' : Value} {xs ys : List Int} {tmp : Obj} (hv : Boxed A Bl 22 v) (hrow : Lo A n₀ v xs) (hgrow : (A.alloc tmp).grownBy w1 v.ownBlock)
    (h2 : Boxed (w1.setCell ⟨Bl, 0, none⟩ v') Bl 22 v') (h3 : Lo (w1.setCell ⟨Bl, 0, none⟩ v') n₀ v' ys) (h4 : KeepsOthers A (w1.setCell ⟨Bl, 0, none⟩ v')) (h5 : Below n₀ A (w1.setCell ⟨Bl, 0, none⟩ v'))
    (hloc : v'.ownBlock = v.ownBlock ∨ v'.ownBlock = some (A.alloc tmp).heap.size) : Kc n₀ Bp Bl A (w1.setCell ⟨Bl, 0, none⟩ v') := by
  refine ⟨h5, fun ⟨_, o, ho, hc⟩ => ⟨⟨v', ys, h2, h3⟩, o, h4.same _ _ ho hc, hc⟩, fun _ k o hk ho hw => ⟨?_, fun q => ?_⟩⟩
  · have hkl := lt_of_get hk
    have hb : k ≠ Bl := fun e => hw (.inr (.inl e))
    rw [Below.heap_setCell w1 ⟨Bl, 0, none⟩ v' k hb]
    rw [hgrow.block k (by simp; omega) (fun e => hw (.inr (.inr ⟨v, hv, e.symm⟩)))]
    exact (Below.heap_alloc A tmp k hkl).trans hk
  · rcases q with q | q | ⟨u, hu, q⟩
    · exact hw (.inl q)
    · exact hw (.inr (.inl q))
    · have : v' = u := boxed_one h2 hu
      subst this
      rcases hloc with e | e
      · exact hw (.inr (.inr ⟨v, hv, by rw [← e]; exact q⟩))
      · rw [e] at q
        have := lt_of_get hk
        simp at q
        omega
theorem Kc.b' {n₀ Bp Bl : Nat} {w : World} (hn : n₀ ≤ w.heap.size) (h0 : Bp < w.heap.size) (h1 : Bl < w.heap.size) (W : World) (l : Nat) (o o' : Obj) (hl : w.heap.size ≤ l) (h : W.heap[l]? = some o) (ho : o.isCells = false) (hw : o.isWalk = false) : Kc n₀ Bp Bl W (W.putObj l o') := by
  refine ⟨belowK_b hn W l o o' hl h ho hw, fun ⟨⟨v, xs, hv, hr⟩, q, hq, hc⟩ => ⟨⟨v, xs, blk_putObj o' hv h ho, ownsRow_putObj hr o' h ho⟩, q, (World.putObj_heap_other (by omega)).trans hq, hc⟩, fun ⟨⟨v, xs, hv, hr⟩, _⟩ k q hk hq hw => ⟨?_, fun r => hw ?_⟩⟩
  · refine (World.putObj_heap_other (fun e => ?_)).trans hk
    subst e
    rw [h] at hk
    cases hk
    rw [ho] at hq
    cases hq
  · rcases r with r | r | ⟨u, hu, r⟩
    · exact .inl r
    · exact .inr (.inl r)
    · have : v = u := boxed_one (show Boxed _ Bl _ v from blk_putObj o' hv h ho) hu
      subst this
      exact .inr (.inr ⟨v, hv, r⟩)
/-- A block of another kind isn't written. -/
theorem notWr {n₀ Bp Bl : Nat} {A : World} {g : Nat} {t : TypeId} {cs : Array Value} (hs : StL n₀ Bp Bl A) (h : Blk A g t cs) (h1 : t ≠ 22) (h2 : 67 ≠ t) : ¬ Wr Bp Bl A g := by
  obtain ⟨⟨v, xs, hv, hl⟩, o, ho, hc⟩ := hs
  rintro (e | e | ⟨u, hu, e⟩)
  · subst e
    unfold Blk at h
    rw [h] at ho
    cases ho
    cases hc
  · exact Blk.ne_type h (blk_of hv) h1 e
  · have : v = u := boxed_one hv hu
    subst this
    exact own_row_ne hl h h2 e.symm
theorem Kc.blk {n₀ Bp Bl : Nat} {A B : World} (h : Kc n₀ Bp Bl A B) (hs : StL n₀ Bp Bl A) {g : Nat} {t : TypeId} {cs : Array Value} (hg : Blk A g t cs) (hw : ¬ Wr Bp Bl A g) : Blk B g t cs := (h.k hs g _ hg rfl hw).1

end Go.Proofs.YtanhhkdoejnpiaaGreat
/-! Of stage 6 -/
namespace Go.Proofs.YtanhhkdoejnpiaaGreat
open Go.ChangeShapes Go.WideShapes Go.ChangeAt Go.RowKit Go.Shelf Go.Maps
set_option linter.unusedVariables false
set_option linter.unusedSimpArgs false
attribute [local go_sem] Oper.semAt_some

/-- Where follow's boxes lie. -/
structure Geo (n₀ Bm Bl Bp Bk Bf : Nat) (P Q : Addr) : Prop where
  a : n₀ ≤ Bm
  b : Bm < Bl
  c : Bl < Bp
  d : Bp < Bk
  e : Bk < Bf
  p : P.block < n₀
  q : Q.block < n₀
def fov (Bm Bl Bk Bf : Nat) : Value := .func (.func 104) #[] #[bx Bk, bx Bm, bx Bl, bx Bf]
/-- What follow's boxes hold: what has been told. -/
structure St (m : Me) (P Q : Addr) (c d n₀ Bm Bl Bp Bk Bf : Nat) (w : World) (out : List Int) : Prop where
  hk : Boxed w Bk 148 (.map (some Bp))
  hm : Box w Bm m P Q c d
  hl : ∃ v, Boxed w Bl 22 v ∧ Lo w n₀ v out
  hf : Boxed w Bf 149 (fov Bm Bl Bk Bf)
  hp : w.ownsMap Tryz.prog 67 unitElem Bp out.length (setD out)
  re : ∀ x ∈ out, m.real x = true
  nd : out.Nodup
  le : out.length + m.lft out ≤ 8192
section
variable {m : Me} {P Q : Addr} {c d n₀ Bm Bl Bp Bk Bf : Nat} {w w' : World} {out : List Int}
theorem St.obj (h : St m P Q c d n₀ Bm Bl Bp Bk Bf w out) : ∃ o, w.heap[Bp]? = some o ∧ o.isCells = false := by
  obtain ⟨es, clock, hb, _⟩ := h.hp
  exact ⟨_, hb, rfl⟩
theorem St.stl (h : St m P Q c d n₀ Bm Bl Bp Bk Bf w out) : StL n₀ Bp Bl w := by
  obtain ⟨v, h1, h2⟩ := h.hl
  exact ⟨⟨v, out, h1, h2⟩, h.obj⟩
theorem St.up (h : St m P Q c d n₀ Bm Bl Bp Bk Bf w out) (k : Up w w') : St m P Q c d n₀ Bm Bl Bp Bk Bf w' out := by
  obtain ⟨v, h1, h2⟩ := h.hl
  exact ⟨Blk.up h.hk k, h.hm.up k, ⟨v, Blk.up h1 k, h2.up k⟩, Blk.up h.hf k, h.hp.kept k.gb (by simp), h.re, h.nd, h.le⟩
theorem St.keep (G : Geo n₀ Bm Bl Bp Bk Bf P Q) (h : St m P Q c d n₀ Bm Bl Bp Bk Bf w out) {row : Option Nat} (hg : w.grownBy w' row) (hr : ∀ r, row = some r → Bf < r ∧ ∃ o : Obj, w.heap[r]? = some o ∧ o.isCells = false) : St m P Q c d n₀ Bm Bl Bp Bk Bf w' out := by
  obtain ⟨v, h1, h2⟩ := h.hl
  have hn : n₀ ≤ w.heap.size := by have := G.a; have := h.hm.1.lt; omega
  have hne : ∀ b, b ≤ Bf → some b ≠ row := fun b hb e => by have := (hr b e.symm).1; omega
  have g1 := G.a; have g2 := G.b; have g3 := G.c; have g4 := G.d; have g5 := G.e
  refine ⟨h.hk.kept hg (hne _ (by omega)), ⟨Blk.grown h.hm.1 hg (hne _ (by omega)), h.hm.2.below ((Below.refl n₀ w).grown hg hn (fun k e => by have := (hr k e).1; omega)) G.p G.q⟩, ⟨v, h1.kept hg (hne _ (by omega)), World.ownsRow.kept h2 hg ?_⟩, h.hf.kept hg (hne _ (by omega)), h.hp.kept hg (hne _ (by omega)), h.re, h.nd, h.le⟩
  cases e : v.ownBlock with
  | none => exact .inl rfl
  | some g =>
    refine .inr (fun q => ?_)
    obtain ⟨_, o, ho, hc⟩ := hr g q.symm
    rcases h2.2 with ⟨rfl, _⟩ | ⟨g', cap, cur, rfl, _, hg', _⟩
    · simp [Value.ownBlock] at e
    · obtain rfl : g' = g := by simpa [Value.ownBlock] using e
      rw [hg'] at ho
      cases ho
      cases hc
theorem St.n0 (G : Geo n₀ Bm Bl Bp Bk Bf P Q) (h : St m P Q c d n₀ Bm Bl Bp Bk Bf w out) : n₀ ≤ w.heap.size ∧ Bf < w.heap.size := by
  have := G.a; have := h.hm.1.lt; have := h.hf.lt
  omega
end
def FoPost (m : Me) (P Q : Addr) (c d n₀ Bm Bl Bp Bk Bf : Nat) (w : World) (out : List Int) (e : Ending) (w' : World) : Prop :=
  (∃ v, e = .returned v) ∧ St m P Q c d n₀ Bm Bl Bp Bk Bf w' out ∧ Kc n₀ Bp Bl w w' ∧ KeepsFrom (Bp + 1) w w'

set_option maxHeartbeats 1000000 in
theorem follow_in (m : Me) (P Q : Addr) (c d n₀ Bm Bl Bp Bk Bf : Nat) (G : Geo n₀ Bm Bl Bp Bk Bf P Q) (a : Int) (out : List Int) (w : World) (ha : U64 a) (hS : St m P Q c d n₀ Bm Bl Bp Bk Bf w out) (hin : a ∈ out) :
    Calls Tryz.prog 104 #[.int .u64 a, bx Bk, bx Bm, bx Bl, bx Bf] w (FoPost m P Q c d n₀ Bm Bl Bp Bk Bf w out) := by
  have hhas : Maps.has (setD out) (.int .u64 a) = true := by rw [setD_has]; exact decide_eq_true hin
  have hn := (hS.n0 G).1
  have HS := Lib.hid hS
  have hp := hS.hp
  have hkc := hS.hk.cell
  have hkey := key_of ha
  clear hS hin
  go_enter Tryz.func104, Tryz.ntmps104
  go_wp2_with (at_lookup; refine wpList_lookup_own_unit _ rfl _ _ 148 rfl 67 150 law64 Tryz.underlying148 (zeroS _) Bp out.length (setD out) rfl hp _ _ rfl hkey ?_; rw [hhas])
  go_end0
  exact ⟨⟨_, rfl⟩, HS.out.up ((Up.refl w).alloc _), Kc.up ((Up.refl w).alloc _) hn, ((Up.refl w).alloc _).kf⟩

set_option maxHeartbeats 1000000 in
theorem follow_far (m : Me) (P Q : Addr) (c d n₀ Bm Bl Bp Bk Bf : Nat) (G : Geo n₀ Bm Bl Bp Bk Bf P Q) (hwf : m.wf) (a : Int) (out : List Int) (w : World) (ha : U64 a) (hS : St m P Q c d n₀ Bm Bl Bp Bk Bf w out) (hin : a ∉ out) (hr : m.real a = false) :
    Calls Tryz.prog 104 #[.int .u64 a, bx Bk, bx Bm, bx Bl, bx Bf] w (FoPost m P Q c d n₀ Bm Bl Bp Bk Bf w out) := by
  have hhas : Maps.has (setD out) (.int .u64 a) = false := by rw [setD_has]; exact decide_eq_false hin
  have hfd := Lib.hid (fun (W : World) (hs : Sits W m P Q c d) => by have h := found_any m a P Q c d W hs ha hwf; rw [hr] at h; exact h)
  have hn := (hS.n0 G).1
  have HS := Lib.hid hS
  have hp := hS.hp
  have hkc := hS.hk.cell
  have hmc := hS.hm.1.cell
  have hml := hS.hm.1.lt
  have hkey := key_of ha
  clear hS hin hr
  go_enter Tryz.func104, Tryz.ntmps104
  go_wp2_with (at_lookup; refine wpList_lookup_own_unit _ rfl _ _ 148 rfl 67 150 law64 Tryz.underlying148 (zeroS _) Bp out.length (setD out) rfl hp _ _ rfl hkey ?_; rw [hhas])
  refine (hfd.out _ (HS.out.hm.2.up ((Up.refl w).alloc _))).mono ?_
  rintro e w1 ⟨rfl, h1⟩
  have U1 : Up w w1 := ((Up.refl w).alloc _).trans h1
  go_wp2
  go_end0
  exact ⟨⟨_, rfl⟩, HS.out.up U1, Kc.up U1 hn, U1.kf⟩

theorem kf_mono {B B' : Nat} {w w' : World} (h : KeepsFrom B w w') (k : B ≤ B') : KeepsFrom B' w w' := ⟨h.size, fun i o hi => h.same i o (Nat.le_trans k hi)⟩
theorem nodup_snoc {l : List Int} {a : Int} (h : l.Nodup) (k : a ∉ l) : (l ++ [a]).Nodup := by
  rw [List.nodup_append]
  exact ⟨h, by simp, fun x hx y hy => by rw [List.mem_singleton.1 hy]; exact fun e => k (e ▸ hx)⟩
theorem getD_u64 {l : List Int} (h : ∀ x ∈ l, U64 x) (i : Nat) : U64 (l.getD i 0) := by
  unfold List.getD
  cases e : l[i]? with
  | none => exact u64_0
  | some x => exact h x (List.mem_of_getElem? e)
theorem Kc.grow {n₀ Bp Bl Bf : Nat} {A B : World} {row : Option Nat} (hp : Bp ≤ Bf) (hl : Bl ≤ Bf) (hn0 : n₀ ≤ Bf) (hn : n₀ ≤ A.heap.size) (hg : A.grownBy B row) (hr : ∀ r, row = some r → Bf < r ∧ ∃ o : Obj, A.heap[r]? = some o ∧ o.isCells = false) : Kc n₀ Bp Bl A B := by
  have hne : ∀ b, b ≤ Bf → some b ≠ row := fun b hb e => by have := (hr b e.symm).1; omega
  have hcl : ∀ {k o}, A.heap[k]? = some o → o.isCells = true → some k ≠ row := fun hk hc e => by
    obtain ⟨_, o, ho, hx⟩ := hr _ e.symm
    rw [hk] at ho
    cases ho
    rw [hc] at hx
    cases hx
  refine ⟨(Below.refl n₀ A).grown hg hn (fun k e => by have := (hr k e).1; omega), fun ⟨⟨v, xs, hv, hlo⟩, o, ho, hc⟩ => ⟨⟨v, xs, hv.kept hg (hne _ hl), World.ownsRow.kept hlo hg ?_⟩, o, (hg.block _ (lt_of_get ho) (hne _ hp)).trans ho, hc⟩, fun ⟨⟨v, xs, hv, hlo⟩, _⟩ k o hk ho hw => ⟨(hg.block k (lt_of_get hk) (hcl hk ho)).trans hk, fun q => hw ?_⟩⟩
  · cases e : v.ownBlock with
    | none => exact .inl rfl
    | some g =>
      refine .inr (fun q => ?_)
      rcases hlo.2 with ⟨rfl, _⟩ | ⟨g', cap, cur, rfl, _, hg', _⟩
      · simp [Value.ownBlock] at e
      · obtain rfl : g' = g := by simpa [Value.ownBlock] using e
        exact hcl hg' rfl q
  · rcases q with q | q | ⟨u, hu, q⟩
    · exact .inl q
    · exact .inr (.inl q)
    · have : v = u := boxed_one (hv.kept hg (hne _ hl)) hu
      subst this
      exact .inr (.inr ⟨v, hv, q⟩)

theorem own_ne_obj {w : World} {n₀ Bp : Nat} {v : Value} {xs : List Int} (h : Lo w n₀ v xs) (ho : ∃ o, w.heap[Bp]? = some o ∧ o.isCells = false) : v.ownBlock = none ∨ v.ownBlock ≠ some Bp := by
  refine .inr (fun e => ?_)
  obtain ⟨o, ho, hc⟩ := ho
  rcases h.2 with ⟨rfl, _⟩ | ⟨g, cap, cur, rfl, _, hg, _⟩
  · simp [Value.ownBlock] at e
  · obtain rfl : g = Bp := by simpa [Value.ownBlock] using e
    rw [hg] at ho
    cases ho
    cases hc
set_option maxRecDepth 100000 in
set_option maxHeartbeats 8000000 in
theorem follow_on (m : Me) (P Q : Addr) (c d n₀ Bm Bl Bp Bk Bf : Nat) (G : Geo n₀ Bm Bl Bp Bk Bf P Q) (hwf : m.wf) (f : Nat)
    (ih : ∀ (a : Int) (out : List Int) (w : World), U64 a → St m P Q c d n₀ Bm Bl Bp Bk Bf w out → m.lft out < f → Calls Tryz.prog 104 #[.int .u64 a, bx Bk, bx Bm, bx Bl, bx Bf] w (FoPost m P Q c d n₀ Bm Bl Bp Bk Bf w (m.vis f a out)))
    (a : Int) (out : List Int) (w : World) (ha : U64 a) (hS : St m P Q c d n₀ Bm Bl Bp Bk Bf w out) (hin : a ∉ out) (hr : m.real a = true) (hlt : m.lft out < f + 1) :
    Calls Tryz.prog 104 #[.int .u64 a, bx Bk, bx Bm, bx Bl, bx Bf] w (FoPost m P Q c d n₀ Bm Bl Bp Bk Bf w ((m.ptv a).foldl (fun o p => m.vis f p o) (out ++ [a]))) := by
  have hhas : Maps.has (setD out) (.int .u64 a) = false := by rw [setD_has]; exact decide_eq_false hin
  have hfd := Lib.hid (fun (W : World) (hs : Sits W m P Q c d) => by have h := found_any m a P Q c d W hs ha hwf; rw [hr] at h; exact h)
  have hlf := lft_snoc hr hin
  have hle := hS.le
  have hn := (hS.n0 G).1
  have g1 := G.a; have g2 := G.b; have g3 := G.c; have g4 := G.d; have g5 := G.e
  have HS := Lib.hid hS
  have HR := Lib.hid hr
  have HI := Lib.hid hin
  have HA := Lib.hid ha
  have HX := Lib.hid ih
  have hp := hS.hp
  have hkc := hS.hk.cell
  have hmc := hS.hm.1.cell
  have hml := hS.hm.1.lt
  have hkey := key_of ha
  obtain ⟨i0, hi, hz0, hz1, hz2⟩ := info_parts info_u64
  clear hS hin hr ha ih
  refine (callsIn_wide (n := 5)).1 ?_
  refine callsIn_of_wp_marks Tryz.func104 rfl trivial ?_ rfl
  simp only [Tryz.ntmps104, List.size_toArray, List.length_cons, List.length_nil, Nat.reduceAdd, Nat.reduceSub, Array.replicate_succ, Array.replicate_zero, List.push_toArray, List.append_toArray, List.nil_append, List.cons_append]
  gi_wp2_with (gi_at_lookup; refine wpListIn_lookup_own_unit _ rfl _ _ 148 rfl 67 150 law64 Tryz.underlying148 (zeroS _) Bp out.length (setD out) rfl hp _ _ rfl hkey ?_; rw [hhas])
  refine ⟨trivial, ?_⟩
  refine (callsIn_wide.2 (hfd.out _ (HS.out.hm.2.up ((Up.refl w).alloc _)))).mono ?_
  rintro e w1 ⟨rfl, h1⟩
  have U1 : Up w w1 := ((Up.refl w).alloc _).trans h1
  have S1 := HS.out.up U1
  obtain ⟨v, hv1, ho1⟩ := S1.hl
  have hn1 : n₀ ≤ w1.heap.size := (S1.n0 G).1
  have K1 := Kc.up (Bp := Bp) (Bl := Bl) U1 hn
  have F1 := U1.kf (B := Bp + 1)
  have hk1 := S1.hk
  have hm1 := S1.hm
  have hf1 := S1.hf
  have hp1 := S1.hp
  have O1 := Lib.hid S1.obj
  have R1 := Lib.hid S1.re
  have N1 := Lib.hid S1.nd
  have hk1c := hk1.cell
  clear h1 U1 hp hkc hmc hml HS hfd S1
  gi_wp2_with (first
    | (gi_at_mapUpdate; refine wpListIn_mapUpdate_own _ rfl _ _ _ 148 rfl 67 150 law64 Tryz.underlying148 unitElem Bp out.length (setD out) rfl hp1 (by unfold maxLen; omega) _ _ (.int .u64 a) rfl rfl hkey (.agg []) [] unitElem_mk ?_; intro w2 hown2 hgrow2; have hv2 := hv1.kept hgrow2 (fun e => (by cases e; omega)); have hl2c := hv2.cell; have ho2 : Lo w2 n₀ v out := World.ownsRow.kept ho1 hgrow2 (own_ne_obj ho1 O1.out))
    | (gi_at_builtin; refine wpListIn_append_own_at _ rfl _ _ 22 rfl n₀ 67 i0 (.int .u64 0) 1 8 Tryz.underlying22 hi hz0 hz1 hz2 rfl (by decide) _ _ _ rfl (World.ownsRow.alloc ho2 _) ⟨w2.heap.size, 0, none⟩ 1 1 [.int .u64 a] rfl rfl (cell_one_new _ _ _) (by simp [Value.oneCell']) (by unfold maxLen; omega) (by omega) (by have := hgrow2.size; simp; omega) ?_; intro v' w3 hown3 hgrow3 _ hloc3; obtain ⟨g', cap', rfl⟩ := ownsRow_succ hown3; obtain ⟨hv3, hv4, hr4, hk4, hb4⟩ := hv2.appended (by decide) ho2 (Nat.le_trans hn1 hgrow2.size) (by omega) hown3 hgrow3; have hc3 := hv3.cell; have hf3 := hv3.frozen; have hm4 := blk_app hv2 hv3 ho2 hgrow3 (Blk.grown hm1.1 hgrow2 (fun e => (by cases e; omega))) (by decide) (by decide) (v' := .slice (some ⟨g', 0, none⟩) (out.length + 1) cap'); have hm4c := hm4.cell; have hm4l := hm4.lt)
    | (refine ⟨trivial, ?_⟩; gi_at_call 106; refine (callsIn_wide.2 (pointers_any m.n P Q c d a _)).mono ?_; rintro e w' ⟨rfl, rfl⟩))
  have hg3 : (w2.alloc (.cells #[.int .u64 a] 67)).grownBy w3 v.ownBlock := hgrow3
  have hloc : (Value.slice (some ⟨g', 0, none⟩) (out.length + 1) cap').ownBlock = v.ownBlock ∨ (Value.slice (some ⟨g', 0, none⟩) (out.length + 1) cap').ownBlock = some (w2.alloc (.cells #[.int .u64 a] 67)).heap.size := hloc3
  clear hgrow3 hloc3 hc3 hf3 hm4c hm4l hown3 hk1c hl2c hkey
  have hlen : (out ++ [a]).length = out.length + 1 := by simp
  have ho4 : Lo (w3.setCell ⟨Bl, 0, none⟩ (Value.slice (some ⟨g', 0, none⟩) (out.length + 1) cap')) n₀ (Value.slice (some ⟨g', 0, none⟩) (out.length + 1) cap') (out ++ [a]) := by
    unfold Lo
    rw [hlen, show wds (out ++ [a]) = wds out ++ [Value.int .u64 a] from by simp [wds, wd]]
    exact hr4
  have kc4 := Kc.app (Bp := Bp) hv2 ho2 hg3 hv4 ho4 hk4 hb4 hloc
  have km2 := Kc.map (Bl := Bl) hgrow2 hn1 (by omega) (by omega) (by obtain ⟨es, clock, hb, _⟩ := hown2; exact ⟨_, hb, rfl⟩)
  have hk4b := blk_app hv2 hv3 ho2 hg3 (Blk.grown (show Blk w1 Bk _ _ from hk1) hgrow2 (fun e => by cases e; omega)) (by decide) (by decide) (v' := Value.slice (some ⟨g', 0, none⟩) (out.length + 1) cap')
  have hf4b := blk_app hv2 hv3 ho2 hg3 (Blk.grown (show Blk w1 Bf _ _ from hf1) hgrow2 (fun e => by cases e; omega)) (by decide) (by decide) (v' := Value.slice (some ⟨g', 0, none⟩) (out.length + 1) cap')
  have hp4 : (w3.setCell ⟨Bl, 0, none⟩ (Value.slice (some ⟨g', 0, none⟩) (out.length + 1) cap')).ownsMap Tryz.prog 67 unitElem Bp (out ++ [a]).length (setD (out ++ [a])) := by
    rw [hlen, setD_snoc]
    refine World.ownsMap.setCell ((hown2.alloc (.cells #[.int .u64 a] 67)).kept hg3 ?_) (by simp only []; omega) _
    obtain ⟨es, clock, hb, _⟩ := hown2
    rcases own_ne_obj ho2 ⟨_, hb, rfl⟩ with e | e
    · rw [e]; simp
    · exact fun q => e q.symm
  have S4 : St m P Q c d n₀ Bm Bl Bp Bk Bf (w3.setCell ⟨Bl, 0, none⟩ (Value.slice (some ⟨g', 0, none⟩) (out.length + 1) cap')) (out ++ [a]) := by
    refine ⟨hk4b, ⟨hm4, hm1.2.below (((Below.refl n₀ w1).grown hgrow2 hn1 (fun k e => by cases e; omega)).trans hb4) G.p G.q⟩, ⟨_, hv4, ho4⟩, hf4b, hp4, ?_, nodup_snoc N1.out HI.out, by rw [hlen]; omega⟩
    intro x hx
    rcases List.mem_append.1 hx with q | q
    · exact R1.out x q
    · rw [List.mem_singleton.1 q]; exact HR.out
  have K4 : Kc n₀ Bp Bl w (w3.setCell ⟨Bl, 0, none⟩ (Value.slice (some ⟨g', 0, none⟩) (out.length + 1) cap')) := (K1.t km2).t kc4
  have F4 : KeepsFrom (Bp + 1) w (w3.setCell ⟨Bl, 0, none⟩ (Value.slice (some ⟨g', 0, none⟩) (out.length + 1) cap')) := (F1.trans (KeepsFrom.of_grownBy hgrow2 (fun j e => by cases e; omega))).trans (hk4.from _)
  have hsz : w3.heap.size = (w3.setCell ⟨Bl, 0, none⟩ (Value.slice (some ⟨g', 0, none⟩) (out.length + 1) cap')).heap.size := by simp
  clear hv1 ho1 K1 F1 hk1 hm1 hf1 hp1 O1 R1 N1 hown2 hgrow2 hv2 ho2 hv3 hv4 hr4 hk4 hb4 hm4 hg3 hloc ho4 kc4 km2 hk4b hf4b hp4 hlen
  obtain ⟨W4, hW4⟩ : ∃ W4, (w3.setCell ⟨Bl, 0, none⟩ (Value.slice (some ⟨g', 0, none⟩) (out.length + 1) cap')) = W4 := ⟨_, rfl⟩
  rw [hW4] at S4 K4 F4 hsz ⊢
  clear hW4
  obtain ⟨hN4, hB4⟩ := S4.n0 G
  obtain ⟨W5, hW5⟩ : ∃ W5, (W4.alloc (.cells (mcs m.n P Q c d) 25)).alloc (.cells #[.int .u64 a] 67) = W5 := ⟨_, rfl⟩
  have U5 : Up W4 W5 := by rw [← hW5]; exact ((Up.refl W4).alloc _).alloc _
  have hz5 : W5.heap.size = w3.heap.size + 1 + 1 := by rw [← hW5]; simp [hsz]
  have bM : Blk W5 w3.heap.size 25 (mcs m.n P Q c d) := by rw [← hW5]; exact (Blk.new' _ (by simp [hsz]) _ _).alloc _
  have bA : Blk W5 (w3.heap.size + 1) 67 #[.int .u64 a] := by rw [← hW5]; exact Blk.new' _ (by simp [hsz]) _ _
  have S5 := S4.up U5
  have K5 := K4.t (Kc.up U5 hN4)
  have F5 := F4.trans (U5.kf (B := Bp + 1))
  have W5n : ¬ Wr Bp Bl W5 (w3.heap.size + 1) := by
    rintro (e | e | ⟨u, hu, e⟩)
    · omega
    · omega
    · obtain ⟨v4, h41, h42⟩ := S4.hl
      have : v4 = u := boxed_one (show Boxed W5 Bl _ v4 from Blk.up h41 U5) hu
      subst this
      have := (World.ownsRow.lt h42 _ e).2
      omega
  rw [hW5]
  have hq1 : n₀ ≤ w3.heap.size := by omega
  have hq2 : Bf < W5.heap.size := by omega
  have hq3 : w3.heap.size < W5.heap.size := by omega
  clear hW5 hsz hz5
  have hOwn : OwnFrom W5.heap.size (fun (pre : List Nat) W => (St m P Q c d n₀ Bm Bl Bp Bk Bf W ((pre.map fun x => (m.ptv a).getD x 0).foldl (fun o p => m.vis f p o) (out ++ [a])) ∧ Kc n₀ Bp Bl w W) ∧ KeepsFrom (Bp + 1) w W) := by
    refine OwnFrom.and ?_ (ownFrom_keepsFrom (by have := K5.b.size; omega))
    intro pre W W' row hs hg hr
    have hr' : ∀ r, row = some r → Bf < r ∧ ∃ o : Obj, W.heap[r]? = some o ∧ o.isCells = false := fun r e => ⟨by have := (hr r e).1; omega, (hr r e).2⟩
    exact ⟨hs.1.keep G hg hr', hs.2.t (Kc.grow (Bf := Bf) (by omega) (by omega) (by omega) (hs.1.n0 G).1 hg hr')⟩
  refine wpIn_rangeFunc_ownG rfl (by decide) (gf := 137) (lb := #[bx w3.heap.size, bx (w3.heap.size + 1)]) rfl trivial (enters_of Tryz.func137 (by kernel_rfl) rfl)
    (pointers_stops 4 (by decide) m a P Q c d w3.heap.size (w3.heap.size + 1) W5 (Kc n₀ Bp Bl) (fun A => (Box A w3.heap.size m P Q c d ∧ Blk A (w3.heap.size + 1) 67 #[.int .u64 a]) ∧ StL n₀ Bp Bl A ∧ ¬ Wr Bp Bl A (w3.heap.size + 1)) hwf HA.out
      (fun A B h k => by
        have hA : n₀ ≤ A.heap.size := by have := h.1.1.1.lt; omega
        have kk := Kc.up (Bp := Bp) (Bl := Bl) k hA
        exact ⟨⟨h.1.1.up k, h.1.2.up k⟩, kk.s h.2.1, (kk.k h.2.1 _ _ h.1.2 rfl h.2.2).2⟩)
      (fun A B h k => ⟨⟨⟨k.blk h.2.1 h.1.1.1 (notWr h.2.1 h.1.1.1 (by decide) (by decide)), h.1.1.2.below k.b G.p G.q⟩, k.blk h.2.1 h.1.2 h.2.2⟩, k.s h.2.1, (k.k h.2.1 _ _ h.1.2 rfl h.2.2).2⟩)
      (fun A h => h.1)
      (fun A B g cs h k hb => k.blk h.2.1 hb (notWr h.2.1 hb (by decide) (by decide)))
      ⟨⟨⟨bM, S5.hm.2⟩, bA⟩, S5.stl, W5n⟩)
    Kc.t (Kc.b' (by omega) (by omega) (by omega)) (Below.refl _ _) (fun _ => rfl)
    (fun (pre : List Nat) W => (St m P Q c d n₀ Bm Bl Bp Bk Bf W ((pre.map fun x => (m.ptv a).getD x 0).foldl (fun o p => m.vis f p o) (out ++ [a])) ∧ Kc n₀ Bp Bl w W) ∧ KeepsFrom (Bp + 1) w W)
    (fun _ _ _ => False) hOwn (fun _ _ _ _ _ hs _ _ => hs)
    ⟨⟨S5, K5⟩, F5⟩
    (fun x => { tmps := #[.int .u64 a, bx Bk, bx Bm, bx Bl, bx Bf, undef, bx w.heap.size, .bool false, .int .u64 ((m.ptv a).getD x 0), .tuple #[.agg #[], .bool false], .map (some Bp), .int .u64 a, .tuple #[.agg #[], .bool false], .agg #[], .bool false, .bool false, .bool false, Value.agg #[.int .i64 m.n, .slice (some P) m.n c, .slice (some Q) m.n d], .int .u64 a, .bool true, .bool false, .bool false, .map (some Bp), .int .u64 a, .agg #[], v, .int .u64 a, .slice (some ⟨w2.heap.size, 0, none⟩) 1 1, Value.slice (some ⟨g', 0, none⟩) (out.length + 1) cap', Value.agg #[.int .i64 m.n, .slice (some P) m.n c, .slice (some Q) m.n d], .int .u64 a, .func (.func 137) #[] #[bx w3.heap.size, bx (w3.heap.size + 1)], .int .u64 ((m.ptv a).getD x 0), undef, undef, undef], defers := [] })
    ?assign ?body ?done ?stop
  case assign =>
    intro l x W K hK
    dsimp only at hK ⊢
    generalize (m.ptv a).getD x 0 = b at hK ⊢
    gi_wp2
    exact hK
  case body =>
    rintro l pre x W ⟨⟨hSt, hKc⟩, hKF⟩ _
    have hfc := hSt.hf.cell
    unfold fov at hfc
    have hux : U64 ((m.ptv a).getD x 0) := getD_u64 (ptv_u64 hwf a) x
    have hlf2 : m.lft ((pre.map fun x => (m.ptv a).getD x 0).foldl (fun o p => m.vis f p o) (out ++ [a])) < f :=
      Nat.lt_of_le_of_lt (lft_mono (fun y hy => (fold_pre (fun o p => vis_pre m f p o) _ _).subset hy)) (by omega)
    have hcall := Lib.hid (HX.out _ _ W hux hSt hlf2)
    have E : Hid (((pre ++ [x]).map fun x => (m.ptv a).getD x 0).foldl (fun o p => m.vis f p o) (out ++ [a]) = m.vis f ((m.ptv a).getD x 0) ((pre.map fun x => (m.ptv a).getD x 0).foldl (fun o p => m.vis f p o) (out ++ [a]))) := Lib.hid (by rw [List.map_append, List.foldl_append]; rfl)
    generalize (m.ptv a).getD x 0 = b at hcall E
    clear hux hlf2 hSt
    gi_wp2_with (fail)
    refine ⟨trivial, ?_⟩
    refine (CallsIn.inRound l (callsIn_wide.2 hcall.out)).mono ?_
    rintro e W2 ⟨⟨r, rfl⟩, hS2, hK2, hF2⟩
    gi_wp2
    exact ⟨kf_mono hF2 (by omega), hK2, ⟨by rw [E.out]; exact hS2, hKc.t hK2⟩, hKF.trans hF2⟩
  case done =>
    rintro D zs W hD rfl hI hK
    have hI2 := hOwn.putObj (.deferred none) hI hD hK rfl
    obtain ⟨⟨hSt, hKc⟩, hKF⟩ := hI2
    rw [range_get] at hSt
    gi_wp2
    refine ⟨by simp, .inl ⟨_, _, rfl, run_takeDeferred hK, ?_⟩⟩
    exact ⟨_, results_none rfl _ _ _, ⟨_, rfl⟩, hSt, hKc, hKF⟩
  case stop =>
    rintro D cd pre W _ _ h _
    exact h.elim

theorem follow_any (m : Me) (P Q : Addr) (c d n₀ Bm Bl Bp Bk Bf : Nat) (G : Geo n₀ Bm Bl Bp Bk Bf P Q) (hwf : m.wf) : ∀ (f : Nat) (a : Int) (out : List Int) (w : World), U64 a → St m P Q c d n₀ Bm Bl Bp Bk Bf w out → m.lft out < f →
    Calls Tryz.prog 104 #[.int .u64 a, bx Bk, bx Bm, bx Bl, bx Bf] w (FoPost m P Q c d n₀ Bm Bl Bp Bk Bf w (m.vis f a out)) := by
  intro f
  induction f with
  | zero => intro a out w _ _ h; omega
  | succ f ih =>
    intro a out w ha hS hlt
    by_cases hin : a ∈ out
    · rw [vis_no (.inr hin)]
      exact follow_in m P Q c d n₀ Bm Bl Bp Bk Bf G a out w ha hS hin
    cases hr : m.real a
    · rw [vis_no (.inl hr)]
      exact follow_far m P Q c d n₀ Bm Bl Bp Bk Bf G hwf a out w ha hS hin hr
    · rw [vis_yes hr hin]
      exact follow_on m P Q c d n₀ Bm Bl Bp Bk Bf G hwf f ih a out w ha hS hin hr hlt

end Go.Proofs.YtanhhkdoejnpiaaGreat
/-! Of stage 6 -/
namespace Go.Proofs.YtanhhkdoejnpiaaGreat
open Go.ChangeShapes Go.WideShapes Go.ChangeAt Go.RowKit Go.Shelf Go.Maps
set_option linter.unusedVariables false
set_option linter.unusedSimpArgs false

def Me.rch (m : Me) (roots : List Int) : List Int := roots.foldl (fun o a => m.vis (2 * m.n + 1) a o) []
theorem rch_snoc (m : Me) (l : List Int) (a : Int) : m.rch (l ++ [a]) = m.vis (2 * m.n + 1) a (m.rch l) := by
  unfold Me.rch
  rw [List.foldl_append]
  rfl
/-- A row of words comes. -/
def Rows1 (w : World) (xs : List Int) (e : Ending) (w' : World) : Prop := ∃ v, e = .returned v ∧ Lo w' w.heap.size v xs ∧ Up w w'
def ReRel (m : Me) (P Q : Addr) (c d : Nat) (xs : List Int) (k : Nat) (w : World) (i : Value) (wr : World) : Prop :=
  ∃ x : Nat, x ≤ k ∧ i = .int .i64 x ∧ St m P Q c d w.heap.size w.heap.size (w.heap.size + 1) (w.heap.size + 1 + 1) (w.heap.size + 1 + 1 + 1) (w.heap.size + 1 + 1 + 1 + 1) wr (m.rch (xs.take x)) ∧ Up w wr

set_option maxHeartbeats 4000000 in
theorem reach_any (m : Me) (P Q : Addr) (c d : Nat) (A : Option Addr) (k cap : Nat) (xs : List Int) (w : World) (hm : Sits w m P Q c d) (hwf : m.wf) (hx : Rd w A k xs) (hu : ∀ x ∈ xs, U64 x) (hk : k ≤ 1048576) :
    Calls Tryz.prog 63 #[.agg (mcs m.n P Q c d), .slice A k cap] w (Rows1 w (m.rch xs)) := by
  have HM := Lib.hid hm
  have HX := Lib.hid hx
  have HU := Lib.hid hu
  have Lx := Lib.hid hx.1
  have hP : P.block < w.heap.size := hm.2.2.2.2.2.1.1
  have hQ : Q.block < w.heap.size := hm.2.2.2.2.2.2.1
  have hn := hm.1.2.1
  have hmm := @run_makeMap Tryz.prog
  clear hm hx hu
  have HG := Lib.hid (show Geo w.heap.size w.heap.size (w.heap.size + 1) (w.heap.size + 1 + 1) (w.heap.size + 1 + 1 + 1) (w.heap.size + 1 + 1 + 1 + 1) P Q from ⟨Nat.le_refl _, by omega, by omega, by omega, by omega, hP, hQ⟩)
  go_enter Tryz.func63, Tryz.ntmps63
  go_wp2
  go_loopw [14] (fun i wr => ReRel m P Q c d xs k w i wr) (fun i _ => k - (intOf i).toNat)
  case atStart =>
    have U := (((((Up.refl w).alloc (.cells (mcs m.n P Q c d) 25)).alloc (.cells #[.slice none 0 0] 22)).alloc (.map #[] 0)).alloc (.cells #[.map (some (w.heap.size + 1 + 1))] 148)).alloc (.cells #[fov w.heap.size (w.heap.size + 1) (w.heap.size + 1 + 1 + 1) (w.heap.size + 1 + 1 + 1 + 1)] 149)
    refine ⟨0, Nat.zero_le _, rfl, ⟨?_, ⟨?_, HM.out.up U⟩, ⟨_, ?_, Lo.nil _ _⟩, ?_, ?_, ?_, List.nodup_nil, ?_⟩, U⟩
    · exact (Blk.new' _ (by simp) _ _).alloc _
    · exact ((((Blk.new' _ (by simp) _ _).alloc _).alloc _).alloc _).alloc _
    · exact (((Blk.new' _ (by simp) _ _).alloc _).alloc _).alloc _
    · exact Blk.new' _ (by simp) _ _
    · have h := ((World.ownsMap_made ((w.alloc (.cells (mcs m.n P Q c d) 25)).alloc (.cells #[.slice none 0 0] 22)) Tryz.prog 67 (unitElem (H := Unit))).alloc (.cells #[.map (some (w.heap.size + 1 + 1))] 148)).alloc (.cells #[fov w.heap.size (w.heap.size + 1) (w.heap.size + 1 + 1 + 1) (w.heap.size + 1 + 1 + 1 + 1)] 149)
      simp only [World.size_alloc] at h
      exact h
    · intro x hx; cases hx
    · have := lft_le m []
      show 0 + _ ≤ _
      have e : m.rch (List.take 0 xs) = [] := rfl
      rw [e]
      omega
  case round =>
    obtain ⟨x, hxk, rfl, hSt, U⟩ := hrel
    by_cases hlt : x < k
    · obtain ⟨p, rfl, hcp⟩ := (HX.out.up U).at_ hlt
      have hlx : x < xs.length := by rw [Lx.out]; exact hlt
      have ha : U64 (xs.getD x 0) := HU.out _ (by simp [List.getD, List.getElem?_eq_getElem hlx])
      have T : Hid (m.rch (xs.take (x + 1)) = m.vis (2 * m.n + 1) (xs.getD x 0) (m.rch (xs.take x))) := Lib.hid (by rw [take_snoc' hlx, rch_snoc])
      have hcall := Lib.hid (follow_any m P Q c d w.heap.size w.heap.size (w.heap.size + 1) (w.heap.size + 1 + 1) (w.heap.size + 1 + 1 + 1) (w.heap.size + 1 + 1 + 1 + 1) HG.out hwf (2 * m.n + 1) (xs.getD x 0) _ wr ha hSt (by have := lft_le m (m.rch (xs.take x)); omega))
      generalize xs.getD x 0 = a at hcp hcall T
      have hfc := hSt.hf.cell
      unfold fov at hfc
      clear ha hSt
      go_wp2_with (fail)
      refine hcall.out.mono ?_
      rintro e W2 ⟨⟨r, rfl⟩, hS2, hK2, hF2⟩
      have S2 := Lib.hid hS2
      have U2 := Lib.hid (show Up w W2 from Below.trans U hK2.b)
      clear hS2 hK2 hF2 U hcp hfc hcall
      go_wp2
      refine ⟨⟨x + 1, by omega, by go_num, by rw [T.out]; exact S2.out, U2.out⟩, by simp [intOf]; omega⟩
    · obtain rfl : x = k := by omega
      obtain ⟨v, hv, hl⟩ := hSt.hl
      have hvc := hv.cell
      have HL := Lib.hid hl
      clear hSt hl
      go_wp2
      go_ret
      exact ⟨v, rfl, by have h := HL.out; rw [List.take_of_length_le (by rw [Lx.out]; exact Nat.le_refl _)] at h; exact h, U⟩

end Go.Proofs.YtanhhkdoejnpiaaGreat
