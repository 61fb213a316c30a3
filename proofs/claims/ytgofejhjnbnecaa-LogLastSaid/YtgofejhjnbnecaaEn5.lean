/- Logs (rows of rows of entries); the log with an entry that comes next (package log: finder, its closure, Next; the document's Next): contracts. -/
import Derived.Test.YtgofejhjnbnecaaEn4
namespace Go.Proofs.Ytgofejhjnbnecaa
open Go.Joins Go.ChangeShapes Go.WideShapes Go.ChangeAt Go.RowKit Go.Deep Go.Shelf Go.Maps
set_option linter.unusedVariables false
set_option linter.unusedSimpArgs false

abbrev bx (b : Nat) : Value := .pointer (some ⟨b, 0, none⟩)
/-- A slice of logs. -/
def Rw (w : World) (v : Value) (L : List (List Ent)) : Prop := ∃ A c, v = .slice A L.length c ∧ L.length ≤ c ∧ c ≤ maxLen ∧ (A = none → c = 0) ∧
  (0 < L.length → ∃ p, A = some p ∧ p.block < w.heap.size ∧ ∀ j xs, L[j]? = some xs → ∃ u, w.cell? (p.add j) = some u ∧ Sl w u xs)
theorem Rw.up {w w' : World} {v : Value} {L : List (List Ent)} (h : Rw w v L) (k : Up w w') : Rw w' v L := by
  obtain ⟨A, c, e, h1, h2, h3, h4⟩ := h
  refine ⟨A, c, e, h1, h2, h3, fun q => ?_⟩
  obtain ⟨p, e2, hp, h5⟩ := h4 q
  refine ⟨p, e2, Nat.lt_of_lt_of_le hp k.size, fun j xs hj => ?_⟩
  obtain ⟨u, hu, hs⟩ := h5 j xs hj
  exact ⟨u, (Below.cell k (by rw [block_of_add]; exact hp)).trans hu, hs.up k⟩
theorem Rw.at_ {w : World} {A : Option Addr} {n c x : Nat} {L : List (List Ent)} (h : Rw w (.slice A n c) L) (hx : x < n) : ∃ p u, A = some p ∧ w.cell? (p.add x) = some u ∧ Sl w u (L.getD x []) := by
  obtain ⟨A', c', e, h1, h2, h3, h4⟩ := h
  cases e
  obtain ⟨p, e2, hp, h5⟩ := h4 (by omega)
  obtain ⟨u, hu, hs⟩ := h5 x L[x] (List.getElem?_eq_getElem hx)
  exact ⟨p, u, e2, hu, by simpa [List.getD, List.getElem?_eq_getElem hx] using hs⟩
theorem Rw.max {w : World} {v : Value} {L : List (List Ent)} (h : Rw w v L) : L.length ≤ maxLen := by
  obtain ⟨A, c, e, h1, h2, _⟩ := h
  omega
theorem Rw.nil (w : World) : Rw w (.slice none 0 0) [] := ⟨none, 0, rfl, Nat.le_refl _, Nat.zero_le _, fun _ => rfl, fun q => absurd q (by simp)⟩

/-- The first place from i on whose log isn't empty, or how many logs there are. -/
def fdn (L : List (List Ent)) (i : Nat) : Nat := i + (L.drop i).findIdx (fun r => !r.isEmpty)
theorem fdn_end (L : List (List Ent)) : fdn L L.length = L.length := by simp [fdn]
theorem drop_one {α : Type} {xs : List α} {x : Nat} (d : α) (h : x < xs.length) : xs.drop x = xs.getD x d :: xs.drop (x + 1) := by
  rw [List.drop_eq_getElem_cons h]
  simp [List.getD, List.getElem?_eq_getElem h]
theorem fdn_step {L : List (List Ent)} {i : Nat} (h : i < L.length) (k : L.getD i [] = []) : fdn L i = fdn L (i + 1) := by
  unfold fdn
  rw [drop_one [] h, k, List.findIdx_cons]
  simp
  omega
theorem fdn_here {L : List (List Ent)} {i : Nat} (h : i < L.length) (k : L.getD i [] ≠ []) : fdn L i = i := by
  unfold fdn
  rw [drop_one [] h, List.findIdx_cons]
  generalize L.getD i [] = r at k
  cases r
  · exact absurd rfl k
  · simp
theorem fdn_le {L : List (List Ent)} {i : Nat} (h : i ≤ L.length) : fdn L i ≤ L.length := by
  unfold fdn
  have := List.findIdx_le_length (p := fun (r : List Ent) => !r.isEmpty) (xs := L.drop i)
  rw [List.length_drop] at this
  omega
theorem fdn_ge (L : List (List Ent)) (i : Nat) : i ≤ fdn L i := by unfold fdn; omega
/-- The closure's boxes: where it stands, and the logs. -/
structure FnOk (w : World) (B Bl : Nat) (v : Value) (i : Nat) : Prop where
  a : Blk w B 3 #[.int .i64 ((i : Int) - 1)]
  l : Blk w Bl 26 #[v]
theorem FnOk.up {w w' : World} {B Bl : Nat} {v : Value} {i : Nat} (h : FnOk w B Bl v i) (k : Up w w') : FnOk w' B Bl v i := ⟨h.a.up k, h.l.up k⟩
def FnPost (v : Value) (w : World) (e : Ending) (w' : World) : Prop := e = .returned (.func (.func 24) #[] #[bx (w.heap.size + 1), bx w.heap.size]) ∧ FnOk w' (w.heap.size + 1) w.heap.size v 0 ∧ Up w w'
theorem finder_any (v : Value) (hv : ∃ A n c, v = .slice A n c) (w : World) : Calls Try.prog 23 #[v] w (FnPost v w) := by
  obtain ⟨A, n, c, rfl⟩ := hv
  go_enter Try.func23, Try.ntmps23
  go_wp2
  go_ret
  exact ⟨rfl, ⟨Blk.new' _ (by simp) _ _, (Blk.new w _ _).alloc _⟩, ((Up.refl w).alloc _).alloc _⟩
def fdo (L : List (List Ent)) (i : Nat) : Value := .tuple #[.int .i64 (if fdn L i < L.length then (fdn L i : Nat) else 0 : Int), .bool (decide (fdn L i < L.length))]
/-- What the closure leaves. -/
def NxPost (L : List (List Ent)) (B Bl : Nat) (v : Value) (i : Nat) (w : World) (e : Ending) (w' : World) : Prop := e = .returned (fdo L i) ∧ Blk w' B 3 #[.int .i64 (fdn L i)] ∧ Kp [B] w w'
def atOf (w : World) (B : Nat) : Int := match w.cell? ⟨B, 0, none⟩ with | some (.int _ x) => x | _ => 0
theorem atOf_blk {w : World} {B : Nat} {x : Int} (h : Blk w B 3 #[.int .i64 x]) : atOf w B = x := by
  unfold atOf
  rw [h.cell 0]
  rfl
def NxRel (L : List (List Ent)) (B Bl n : Nat) (v : Value) (i : Nat) (w wr : World) : Prop := ∃ j : Nat, j ≤ n ∧ fdn L i = fdn L j ∧ Blk wr B 3 #[.int .i64 ((j : Int) - 1)] ∧ Blk wr Bl 26 #[v] ∧ Kp [B] w wr
set_option maxHeartbeats 2000000 in
theorem next_cl (v : Value) (L : List (List Ent)) (B Bl i : Nat) (w0 w : World) (hL : Rw w0 v L) (h0 : Up w0 w) (hB : w0.heap.size ≤ B) (hf : FnOk w B Bl v i) (hi : i ≤ L.length) :
    Calls Try.prog 24 #[bx B, bx Bl] w (NxPost L B Bl v i w) := by
  have hm := hL.max
  have hne : Bl ≠ B := fun e => by subst e; exact absurd rfl (Blk.ne_type hf.a hf.l (by decide))
  obtain ⟨hfa, hfl⟩ := hf
  have HL := Lib.hid hL
  obtain ⟨A, c, rfl, -⟩ := hL
  generalize hn : L.length = n at *
  have HN := Lib.hid hn
  unfold maxLen at hm
  clear hn
  go_enter Try.func24, Try.ntmps24
  go_wp2_with (fail)
  go_step3
  go_wp2_with (fail)
  go_step3
  go_wp2_with (fail)
  go_loopw [6] (fun u wr => NxRel L B Bl n (.slice A n c) i w wr) (fun _ wr => (n - atOf wr B).toNat)
  case atStart => exact ⟨i, hi, rfl, hfa, hfl, Kp.refl _ _⟩
  case round =>
    obtain ⟨j, hj, hfd, hb, hbl, hk⟩ := hrel
    have hbc := hb.cell
    have hbf := hb.frozen
    have hblt := hb.lt
    have hlc := hbl.cell
    have hlf := hbl.frozen
    have hllt := hbl.lt
    have hat := atOf_blk hb
    have hb1 : Blk (wr.setCell ⟨B, 0, none⟩ (.int .i64 j)) B 3 #[.int .i64 j] := by simpa using hb.set_ 0 (.int .i64 j)
    have hbl1 : Blk (wr.setCell ⟨B, 0, none⟩ (.int .i64 j)) Bl 26 #[.slice A n c] := hbl.far hne _
    have hk1 : Kp [B] w (wr.setCell ⟨B, 0, none⟩ (.int .i64 j)) := hk.set_ (by simp) _
    have hU : Up w0 (wr.setCell ⟨B, 0, none⟩ (.int .i64 j)) := h0.kp hk1 (fun x hx => by rw [List.mem_singleton.1 hx]; exact hB)
    have e1 : ((j : Int) - 1) + 1 = (j : Int) := by omega
    have HAT := Lib.hid hat
    have HFD := Lib.hid hfd
    have HB1 := Lib.hid hb1
    have HBL1 := Lib.hid hbl1
    have HK1 := Lib.hid hk1
    clear hat hfd hb1 hbl1 hk1 hk
    by_cases hlt : j < n
    · obtain ⟨p, u, rfl, hcu, hsu⟩ := (HL.out.up hU).at_ hlt
      have hlx : j < L.length := by rw [HN.out]; exact hlt
      have hd : decide ((n : Int) ≤ j) = false := decide_eq_false (by omega)
      by_cases hx : L.getD j [] = []
      · rw [hx] at hsu
        obtain ⟨Au, cu, rfl, -⟩ := hsu
        have HS := Lib.hid (fdn_step hlx hx)
        clear hx e1
        go_wp2
        refine ⟨⟨j + 1, by omega, HFD.out.trans HS.out, by rw [show (((j + 1 : Nat) : Int) - 1) = (j : Int) from by omega]; exact HB1.out, HBL1.out, HK1.out⟩, ?_⟩
        rw [atOf_blk HB1.out, HAT.out]
        omega
      · have hp : 0 < (L.getD j []).length := List.length_pos_iff.2 hx
        have HS := Lib.hid (fdn_here hlx hx)
        obtain ⟨Au, cu, rfl, -⟩ := hsu
        have hd2 : decide ((0 : Int) < ((L.getD j []).length : Int)) = true := decide_eq_true (by omega)
        generalize (L.getD j []).length = k at *
        clear hx e1
        go_wp2
        (try rw [Exit.noGoto_ret])
        go_ret2
        refine ⟨?_, by rw [HFD.out, HS.out]; exact HB1.out, HK1.out⟩
        unfold fdo
        rw [HFD.out, HS.out, decide_eq_true hlx, if_pos hlx]
        rfl
    · obtain rfl : j = n := by omega
      have hd : decide ((j : Int) ≤ j) = true := decide_eq_true (by omega)
      clear e1
      go_wp2
      (try rw [Exit.noGoto_ret])
      go_ret2
      have he : fdn L j = L.length := by rw [← HN.out]; exact fdn_end L
      refine ⟨?_, by rw [HFD.out, he, HN.out]; exact HB1.out, HK1.out⟩
      unfold fdo
      rw [HFD.out, he, decide_eq_false (Nat.lt_irrefl _), if_neg (Nat.lt_irrefl _)]
      rfl
set_option maxHeartbeats 1000000 in
theorem next_any (v : Value) (L : List (List Ent)) (w : World) (hL : Rw w v L) : Calls Try.prog 15 #[v] w fun e w' => e = .returned (fdo L 0) ∧ Up w w' := by
  have hf := Lib.hid (finder_any v (by obtain ⟨A, c, e, _⟩ := hL; exact ⟨_, _, _, e⟩) w)
  have hc := Lib.hid (fun (B Bl : Nat) (w' : World) (h0 : Up w w') (hB : w.heap.size ≤ B) (h : FnOk w' B Bl v 0) => next_cl v L B Bl 0 w w' hL h0 hB h (Nat.zero_le _))
  obtain ⟨A, c, rfl, -⟩ := hL
  generalize L.length = n at *
  have hv : ∃ a b, fdo L 0 = .tuple #[.int .i64 a, .bool b] := ⟨_, _, rfl⟩
  obtain ⟨a, b, hv⟩ := hv
  rw [hv]
  have HV := Lib.hid hv
  clear hv
  go_enter Try.func15, Try.ntmps15
  go_wp2_with (fail)
  refine hf.out.mono ?_
  rintro e w1 ⟨rfl, hfo, hU⟩
  have hB : w.heap.size ≤ w.heap.size + 1 := by omega
  go_wp2_with (fail)
  refine (hc.out _ _ _ hU hB hfo).mono ?_
  rintro e w2 ⟨rfl, hb, hk⟩
  rw [HV.out]
  have U2 := hU.kp hk (fun x hx => by rw [List.mem_singleton.1 hx]; exact hB)
  go_wp2
  go_ret2
  exact ⟨rfl, U2⟩
def RnRel (L : List (List Ent)) (n : Nat) (i : Value) (wr : World) (w : World) : Prop := ∃ j : Nat, j ≤ n ∧ i = .int .i64 j ∧ fdn L 0 = fdn L j ∧ w = wr
set_option maxHeartbeats 1000000 in
theorem rnext_any (v : Value) (L : List (List Ent)) (w : World) (hL : Rw w v L) : Calls Try.prog 16 #[v] w fun e w' => e = .returned (fdo L 0) ∧ Up w w' := by
  have hm := hL.max
  have HL := Lib.hid hL
  obtain ⟨A, c, rfl, -⟩ := hL
  generalize hn : L.length = n at *
  have HN := Lib.hid hn
  unfold maxLen at hm
  clear hn
  go_enter Try.func16, Try.ntmps16
  go_wp2
  go_loop [4] (fun i => ∃ j : Nat, j ≤ n ∧ i = .int .i64 j ∧ fdn L 0 = fdn L j) (fun i => n - (intOf i).toNat)
  case atStart => exact ⟨0, Nat.zero_le _, rfl, rfl⟩
  case round =>
    obtain ⟨j, hj, rfl, hfd⟩ := hrel
    have HFD := Lib.hid hfd
    clear hfd
    by_cases hlt : j < n
    · obtain ⟨p, u, rfl, hcu, hsu⟩ := HL.out.at_ hlt
      have hlx : j < L.length := by rw [HN.out]; exact hlt
      by_cases hx : L.getD j [] = []
      · rw [hx] at hsu
        obtain ⟨Au, cu, rfl, -⟩ := hsu
        have HS := Lib.hid (fdn_step hlx hx)
        clear hx
        go_wp2
        go_round
        case rel => exact ⟨j + 1, by omega, by go_num, HFD.out.trans HS.out⟩
        case measure => simp [intOf]; omega
      · have hp : 0 < (L.getD j []).length := List.length_pos_iff.2 hx
        have HS := Lib.hid (fdn_here hlx hx)
        obtain ⟨Au, cu, rfl, -⟩ := hsu
        generalize (L.getD j []).length = k at *
        clear hx
        go_wp2
        go_ret2
        refine ⟨?_, Up.refl _⟩
        unfold fdo
        rw [HFD.out, HS.out, decide_eq_true hlx, if_pos hlx]
        rfl
    · obtain rfl : j = n := by omega
      go_wp2
      go_ret2
      have he : fdn L j = L.length := by rw [← HN.out]; exact fdn_end L
      refine ⟨?_, Up.refl _⟩
      unfold fdo
      rw [HFD.out, he, decide_eq_false (Nat.lt_irrefl _), if_neg (Nat.lt_irrefl _)]
      rfl
end Go.Proofs.Ytgofejhjnbnecaa
