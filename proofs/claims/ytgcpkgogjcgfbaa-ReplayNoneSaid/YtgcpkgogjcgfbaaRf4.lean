/- The document's answers for memory (dovecoteref03): contract of Move. -/
import Derived.Test.YtgcpkgogjcgfbaaRf3
import Derived.LoopTactic
namespace Go.Proofs.Ytgcpkgogjcgfbaa
open Go.ChangeShapes Go.WideShapes Go.ChangeAt Go.RowKit
set_option linter.unusedVariables false
set_option linter.unusedSimpArgs false

theorem Me.put_ok {m : Me} (h : m.ok) (s : Int) (l : List Int) (hl : l.length = m.n) : (m.put s l).ok := by
  unfold Me.put
  split
  · exact ⟨h.1, h.2.1, h.2.2.1, hl⟩
  · exact ⟨h.1, h.2.1, hl, h.2.2.2⟩
theorem Me.put_sp (m : Me) {s : Int} (hs : s = 0 ∨ s = 1) : m.put s (m.sp s) = m := by rcases hs with rfl | rfl <;> rfl

theorem getElem?_splice {α : Type} (L W : List α) (j q : Nat) (hj : j + W.length ≤ L.length) : (splice L j W)[q]? = if q < j then L[q]? else if q < j + W.length then W[q - j]? else L[q]? := by
  have hm : (L.take j).length = j := by simp; omega
  unfold splice
  by_cases q0 : q < j
  · rw [if_pos q0, List.getElem?_append_left (by omega), List.getElem?_take, if_pos q0]
  · rw [if_neg q0, List.getElem?_append_right (by omega), hm]
    by_cases q1 : q < j + W.length
    · rw [if_pos q1, List.getElem?_append_left (by omega)]
    · rw [if_neg q1, List.getElem?_append_right (by omega), List.getElem?_drop]
      congr 1
      omega
theorem splice_step (L W : List Int) (j x : Nat) (hx : x < W.length) (hj : j + W.length ≤ L.length) : (splice L j (W.take x)).set (j + x) (W.getD x 0) = splice L j (W.take (x + 1)) := by
  apply List.ext_getElem?
  intro q
  have h1 : (W.take x).length = x := by simp; omega
  have h2 : (W.take (x + 1)).length = x + 1 := by simp; omega
  have hl : (splice L j (W.take x)).length = L.length := length_splice _ _ _ (by omega)
  rw [List.getElem?_set, getElem?_splice _ _ _ _ (by omega), getElem?_splice _ _ _ _ (by omega), h1, h2]
  by_cases e : j + x = q
  · subst e
    rw [if_pos rfl, if_pos (by omega), if_neg (by omega), if_pos (by omega), Nat.add_sub_cancel_left, List.getElem?_take, if_pos (by omega), List.getElem?_eq_getElem hx]
    simp [List.getD, List.getElem?_eq_getElem hx]
  · rw [if_neg e]
    by_cases q0 : q < j
    · rw [if_pos q0, if_pos q0]
    · rw [if_neg q0, if_neg q0]
      by_cases q1 : q < j + x
      · rw [if_pos q1, if_pos (by omega), List.getElem?_take, List.getElem?_take, if_pos (by omega), if_pos (by omega)]
      · rw [if_neg q1, if_neg (by omega)]

/-- Memory with the first x words moved. -/
def Me.mvx (m : Me) (t : Int) (j : Nat) (W : List Int) (x : Nat) : Me := m.put t (splice (m.sp t) j (W.take x))
theorem Me.mvx_0 (m : Me) {t : Int} (ht : t = 0 ∨ t = 1) (j : Nat) (W : List Int) : m.mvx t j W 0 = m := by
  unfold Me.mvx
  have : splice (m.sp t) j (W.take 0) = m.sp t := by simp [splice]
  rw [this, Me.put_sp m ht]
theorem Me.mvx_n (m : Me) (t : Int) (j : Nat) (W : List Int) (x : Nat) : (m.mvx t j W x).n = m.n := Me.put_n _ _ _
theorem leads_add {a s : Int} {i x n : Nat} (h : Leads a s i) (hn : n ≤ 4096) (hx : i + x < n) : Leads (a + x) s (i + x : Nat) := ⟨h.1, by omega, by omega, by have := h.2.2.2; omega⟩
theorem Me.mvx_succ {m : Me} (hm : m.ok) {b t : Int} {j : Nat} (hl : Leads b t j) (W : List Int) (x : Nat) (hx : x < W.length) (hj : j + W.length ≤ m.n) :
    (m.mvx t j W x).st (b + x) (W.getD x 0) = m.mvx t j W (x + 1) := by
  obtain ⟨e1, e2, e3⟩ := (leads_add hl hm.2.1 (x := x) (by omega)).is
  have ht : (m.mvx t j W x).there (b + x) := ⟨e3, by rw [e2, Me.mvx_n]; omega⟩
  rw [show (m.mvx t j W x).st (b + x) (W.getD x 0) = _ from if_pos ht, e1, e2, Int.toNat_natCast]
  unfold Me.mvx
  rw [Me.sp_put m hl.1, Me.put_put m hl.1, splice_step _ _ _ _ hx (by rw [Me.len_sp hm]; exact hj)]
theorem ld_add {m : Me} (hm : m.ok) {a s : Int} {i : Nat} (hl : Leads a s i) (x : Nat) (hx : i + x < m.n) : m.ld (a + x) = (m.sp s).getD (i + x) 0 ∧ m.lde (a + x) = 0 := by
  obtain ⟨e1, e2, e3⟩ := (leads_add hl hm.2.1 (x := x) hx).is
  have ht : m.there (a + x) := ⟨e3, by rw [e2]; omega⟩
  refine ⟨?_, if_pos ht⟩
  rw [show m.ld (a + x) = _ from if_pos ht, e1, e2, Int.toNat_natCast]

theorem Blk.set3 {w : World} {g : Nat} {t : TypeId} {a0 a1 a2 : Value} (h : Blk w g t #[a0, a1, a2]) (u0 u1 u2 : Value) :
    Blk (((w.setCell ⟨g, 0, none⟩ u0).setCell ⟨g, 1, none⟩ u1).setCell ⟨g, 2, none⟩ u2) g t #[u0, u1, u2] := by
  simpa using ((h.set_ 0 u0).set_ 1 u1).set_ 2 u2
theorem Blk.far3 {w : World} {g g' : Nat} {t : TypeId} {cs : Array Value} (h : Blk w g t cs) (hg : g ≠ g') (u0 u1 u2 : Value) :
    Blk (((w.setCell ⟨g', 0, none⟩ u0).setCell ⟨g', 1, none⟩ u1).setCell ⟨g', 2, none⟩ u2) g t cs :=
  ((h.far (p := ⟨g', 0, none⟩) hg u0).far (p := ⟨g', 1, none⟩) hg u1).far (p := ⟨g', 2, none⟩) hg u2

/-- What holds at each round's head. -/
def MvRel (w : World) (g : Nat) (m : Me) (M : Nat → Me) (l : Nat) (P Q : Addr) (c d : Nat) (i : Value) (wr : World) : Prop :=
  ∃ x : Nat, x ≤ l ∧ i = .int .i64 x ∧ Blk wr w.heap.size 25 #[.int .i64 m.n, .slice (some P) m.n c, .slice (some Q) m.n d] ∧ Blk wr (w.heap.size + 1) 25 #[.int .i64 0, .slice none 0 0, .slice none 0 0] ∧ Up w wr ∧
    ∃ P' Q' c' d', Blk wr g 25 #[.int .i64 m.n, .slice (some P') m.n c', .slice (some Q') m.n d'] ∧ Sits wr (M x) P' Q' c' d'

set_option maxHeartbeats 4000000 in
theorem rmove_at (m : Me) (a b s t : Int) (i j l : Nat) (P Q : Addr) (c d : Nat) (w : World) (hm : Sits w m P Q c d) (ha : U64 a) (hb : U64 b)
    (hla : Leads a s i) (hlb : Leads b t j) (hi : Runs m.n l i) (hj : Runs m.n l j) :
    Calls Try.prog 43 #[.agg #[.int .i64 m.n, .slice (some P) m.n c, .slice (some Q) m.n d], .int .u64 a, .int .u64 b, .int .i64 l] w
      (Gives1 w (m.mvx t j (((m.sp s).drop i).take l) l) (.int .i64 0)) := by
  have hok := Lib.hid hm.1
  have hn := hm.1.2.1
  have HM := Lib.hid hm
  have hta := fun w => rthere_any m a P Q c d w ha
  have htb := fun w => rthere_any m b P Q c d w hb
  rw [show decide (m.there a) = true from decide_eq_true ⟨hla.is.2.2, by rw [hla.is.2.1]; have := hi.2; omega⟩] at hta
  rw [show decide (m.there b) = true from decide_eq_true ⟨hlb.is.2.2, by rw [hlb.is.2.1]; have := hj.2; omega⟩] at htb
  have hwa := Lib.hid (fun w => rwhere_yes a s i ha hla w)
  have hwb := Lib.hid (fun w => rwhere_yes b t j hb hlb w)
  have hta := Lib.hid hta
  have htb := Lib.hid htb
  have HA := Lib.hid hla
  have HB := Lib.hid hlb
  obtain ⟨hi0, hi1⟩ := hi
  obtain ⟨hj0, hj1⟩ := hj
  have a0 := ha.1
  have b0 := hb.1
  have a1 : a ≤ 12884901888 := by have := hla.2.2.2; have := hla.1; omega
  have b1 : b ≤ 12884901888 := by have := hlb.2.2.2; have := hlb.1; omega
  have hl0 : decide ((l : Int) < 0) = false := decide_eq_false (by omega)
  have hli : decide ((m.n : Int) - (i : Int) < (l : Int)) = false := decide_eq_false (by omega)
  have hlj : decide ((m.n : Int) - (j : Int) < (l : Int)) = false := decide_eq_false (by omega)
  have hln : l ≤ 4096 := by omega
  have hWl : (((m.sp s).drop i).take l).length = l := by rw [List.length_take, List.length_drop, Me.len_sp hm.1]; omega
  obtain ⟨W, hW⟩ : ∃ W, W = ((m.sp s).drop i).take l := ⟨_, rfl⟩
  rw [← hW] at hWl ⊢
  have HL := Lib.hid (fun (x : Nat) (hx : x < l) (wr : World) (hS : Sits wr m P Q c d) => show Calls Try.prog 29 #[.agg #[.int .i64 m.n, .slice (some P) m.n c, .slice (some Q) m.n d], .int .u64 (a + x)] wr fun e w' => e = .returned (.tuple #[.int .u64 (W.getD x 0), .int .i64 0]) ∧ Up wr w' from by
    have h := rload_any m (a + x) P Q c d wr hS ⟨by omega, by omega⟩
    obtain ⟨e1, e2⟩ := ld_add hm.1 hla x (by omega)
    rw [e1, e2] at h
    have e3 : W.getD x 0 = (m.sp s).getD (i + x) 0 := by rw [hW]; simp [List.getD, List.getElem?_take, List.getElem?_drop, hx]
    rw [e3]
    exact h)
  have HS := Lib.hid (fun (x : Nat) (hx : x < l) (P' Q' : Addr) (c' d' : Nat) (wr : World) (hS : Sits wr (m.mvx t j W x) P' Q' c' d') => show Calls Try.prog 44 #[.agg #[.int .i64 m.n, .slice (some P') m.n c', .slice (some Q') m.n d'], .int .u64 (b + x), .int .u64 (W.getD x 0)] wr fun e w' =>
      ∃ P Q c d, e = .returned (.tuple #[.agg #[.int .i64 m.n, .slice (some P) m.n c, .slice (some Q) m.n d], .int .i64 0]) ∧ Sits w' (m.mvx t j W (x + 1)) P Q c d ∧ Up wr w' from by
    have h := rstore_any (m.mvx t j W x) (b + x) (W.getD x 0) P' Q' c' d' wr hS ⟨by omega, by omega⟩
    rw [Me.mvx_succ hm.1 hlb W x (by omega) (by omega), Me.mvx_n] at h
    have e2 : (m.mvx t j W x).lde (b + x) = 0 := by
      obtain ⟨q1, q2, q3⟩ := (leads_add hlb hn (x := x) (by omega)).is
      exact if_pos ⟨q3, by rw [q2, Me.mvx_n]; omega⟩
    rw [e2] at h
    refine h.mono fun e w' ⟨P, Q, c, d, he, h1, h2⟩ => ⟨P, Q, c, d, ?_, h1, h2⟩
    rw [he, Me.mvx_n])
  have H0 := Lib.hid (Me.mvx_0 m hlb.1 j W)
  clear hm ha hb hla hlb hW hWl
  go_enter Try.func43, Try.ntmps43
  go_wp2_with (fail)
  refine (hta.out _).mono ?_
  rintro e w1 ⟨rfl, h1⟩
  have D1 := ((Blk.new w 25 _).alloc _).up h1
  have F1 := (Blk.new _ 25 _).up h1
  simp at F1
  have U1 : Up w w1 := (((Up.refl w).alloc _).alloc _).trans h1
  clear h1
  have D1c := D1.cell
  go_wp2_with (fail)
  refine (htb.out _).mono ?_
  rintro e w2 ⟨rfl, h2⟩
  have D2 := D1.up h2
  have F2 := F1.up h2
  have U2 : Up w w2 := U1.trans h2
  clear D1 F1 D1c U1 h2
  have D2c := D2.cell
  have D2l := D2.lt
  go_wp2_with (fail)
  refine (hwa.out _).mono ?_
  rintro e w3 ⟨rfl, rfl⟩
  go_wp2_with (fail)
  refine (hwb.out _).mono ?_
  rintro e w3 ⟨rfl, rfl⟩
  go_wp2_with (fail)
  have F2l := F2.lt
  go_loopw [19] (fun i wr => MvRel w w2.heap.size m (fun x => m.mvx t j W x) l P Q c d i wr) (fun i _ => l - (intOf i).toNat)
  case atStart => exact ⟨0, Nat.zero_le _, rfl, D2.alloc _, F2.alloc _, U2.alloc _, P, Q, c, d, Blk.new _ _ _, by show Sits _ (m.mvx t j W 0) _ _ _ _; rw [H0.out]; exact HM.out.up (U2.alloc _)⟩
  case round =>
    clear D2 F2 D2c
    obtain ⟨x, hx, rfl, D, F, U, P', Q', c', d', G, hS⟩ := hrel
    by_cases hlt : x < l
    · have Dc := D.cell
      have Gc := G.cell
      have Dl := D.lt
      have Gl := G.lt
      have hx1 : decide ((x : Int) < (l : Int)) = true := decide_eq_true (by omega)
      go_wp2_with (fail)
      refine (HL.out x hlt _ (HM.out.up U)).mono ?_
      rintro e wa ⟨rfl, ha⟩
      have Da := D.up ha
      have Fa := F.up ha
      have Ga := G.up ha
      have Ua := U.trans ha
      have hSa := hS.up ha
      clear D F G Dc Gc Dl Gl hS ha
      have Gac := Ga.cell
      have Gal := Ga.lt
      go_wp2_with (fail)
      refine (HS.out x hlt P' Q' c' d' _ hSa).mono ?_
      rintro e wb ⟨P2, Q2, c2, d2, rfl, hSb, hb⟩
      have Db := Da.up hb
      have Fb := Fa.up hb
      have Gb := Ga.up hb
      have Ub := Ua.trans hb
      clear Da Fa Ga Gac Gal hSa hb
      have Gbc := Gb.cell
      have Gbf := Gb.frozen
      have Gbl := Gb.lt
      go_wp2
      refine ⟨⟨x + 1, by omega, by go_num, (Db.far3 (by omega) _ _ _).alloc _, (Fb.far3 (by omega) _ _ _).alloc _, (Ub.set3 (by omega) _ _ _).alloc _, P2, Q2, c2, d2, (Gb.set3 _ _ _).alloc _, (hSb.far3 Gb _ _ _).up ((Up.refl _).alloc _)⟩, by simp [intOf]; omega⟩
    · obtain rfl : l = x := by omega
      have hx1 : decide ((l : Int) < (l : Int)) = false := decide_eq_false (by omega)
      have Gc := G.cell
      have Fc := F.cell
      have Ff := F.frozen
      go_wp2
      refine bodyPost_ret (v := .tuple #[.agg #[.int .i64 m.n, .slice (some P') m.n c', .slice (some Q') m.n d'], .int .i64 0]) (by simp [results, Try.results43, go_sem, Fc]) rfl ?_
      exact ⟨P', Q', c', d', by rw [Me.mvx_n], hS.far3 F _ _ _, U.set3 (by omega) _ _ _⟩
end Go.Proofs.Ytgcpkgogjcgfbaa
