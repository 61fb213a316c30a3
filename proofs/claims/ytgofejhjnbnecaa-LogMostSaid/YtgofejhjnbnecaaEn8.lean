/- Entries, each once (package log: Once): the contract. -/
import Derived.Test.YtgofejhjnbnecaaEn7
namespace Go.Proofs.Ytgofejhjnbnecaa
open Go.Joins Go.ChangeShapes Go.WideShapes Go.ChangeAt Go.RowKit Go.Deep Go.Shelf Go.Maps
set_option linter.unusedVariables false
set_option linter.unusedSimpArgs false

theorem take_one {α : Type} {xs : List α} {x : Nat} (d : α) (h : x < xs.length) : xs.take (x + 1) = xs.take x ++ [xs.getD x d] := by
  rw [List.take_succ_eq_append_getElem h]
  simp [List.getD, List.getElem?_eq_getElem h]
theorem getD_mem {α : Type} {L : List α} {x : Nat} (d : α) (h : x < L.length) : L.getD x d ∈ L := by simp [List.getD, List.getElem?_eq_getElem h]
def MpRel (w : World) (M : Nat) (xs : List Ent) (n : Nat) (i : Value) (wr : World) : Prop :=
  ∃ (x : Nat) (D : DataW Unit), x ≤ n ∧ i = .int .i64 x ∧ wr.ownsMap Try.prog 25 (plainElem Try.prog 3) M x D ∧ Las (xs.take x) D ∧ Up w wr
def OnRel (w : World) (M : Nat) (xs : List Ent) (n : Nat) (D : DataW Unit) (u6 i : Value) (wr : World) : Prop :=
  ∃ (x : Nat) (o : List Ent), x ≤ n ∧ i = .int .i64 x ∧ wr.ownsMap Try.prog 25 (plainElem Try.prog 3) M n D ∧ Lo wr w.heap.size u6 o ∧ o.length ≤ x ∧ onc xs = o ++ onc (xs.drop x) ∧ Up w wr
/-- A row of the call's own comes. -/
def OwPost (xs : List Ent) (w : World) (e : Ending) (w' : World) : Prop := ∃ v, e = .returned v ∧ Lo w' w.heap.size v xs ∧ Up w w'
set_option maxHeartbeats 4000000 in
theorem once_any (v : Value) (xs : List Ent) (w : World) (hx : Sl w v xs) (hk : ∀ x ∈ xs, OkE x) (hb : xs.length ≤ 8796093022208) : Calls Try.prog 18 #[v] w (OwPost (onc xs) w) := by
  obtain ⟨A, c, rfl, -, -, -, hr⟩ := hx
  generalize hn : xs.length = n at *
  have HR := Lib.hid hr
  have HK := Lib.hid hk
  have HN := Lib.hid hn
  have hmm := @run_makeMap Try.prog
  have hmade := World.ownsMap_made w Try.prog 25 (plainElem (H := Unit) Try.prog 3)
  clear hr hk hn
  go_enter Try.func18, Try.ntmps18
  go_wp2_with (fail)
  go_loopw [12] (fun i wr => MpRel w w.heap.size xs n i wr) (fun i _ => n - (intOf i).toNat)
  case atStart => exact ⟨0, _, Nat.zero_le _, rfl, hmade, Las.nil, (Up.refl w).alloc _⟩
  case round =>
    obtain ⟨x, D, hxk, rfl, hp, hF, hU⟩ := hrel
    by_cases hlt : x < n
    · obtain ⟨p, rfl, hcp, hcp2⟩ := (HR.out.up hU).at_ hlt
      have hlx : x < xs.length := by rw [HN.out]; exact hlt
      have ha : OkE (xs.getD x (0, 0)) := HK.out _ (getD_mem _ hlx)
      have T : Hid (xs.take (x + 1) = xs.take x ++ [xs.getD x (0, 0)]) := Lib.hid (take_one _ hlx)
      have L : Hid ((xs.take x).length = x) := Lib.hid (by rw [List.length_take]; omega)
      generalize xs.getD x (0, 0) = a at hcp hcp2 ha T
      have hkey := keyE ha
      have HF := Lib.hid hF
      have HUp := Lib.hid hU
      have HA := Lib.hid ha
      obtain ⟨a1, a2⟩ := a
      simp only [] at hcp hcp2
      clear hF hU ha
      go_wp2_with (at_mapUpdate; refine wpList_mapUpdate_own _ rfl _ _ _ 50 rfl 25 3 lawE Try.underlying50 _ w.heap.size x D rfl (hp.alloc _) (by unfold maxLen; omega) _ _ (kof (a1, a2)) rfl rfl hkey _ [] (plainElem_int Try.underlying3 (WalkArith.wf_i64 (by omega))) ?_; intro w3 hown3 hgrow3)
      have hN := HF.out.put HA.out
      rw [L.out, ← T.out] at hN
      go_roundw
      case rel => exact ⟨x + 1, _, by omega, by go_num, hown3, hN, (HUp.out.alloc _).grown hgrow3 (fun k e => by cases e; exact Nat.le_refl _)⟩
      case measure => simp [intOf]; omega
    · obtain rfl : x = n := by omega
      rw [List.take_of_length_le (by rw [HN.out]; exact Nat.le_refl _)] at hF
      have HF := Lib.hid hF
      have HU0 := Lib.hid hU
      have HP := Lib.hid hp
      clear hF hU hp
      rename World => wA
      go_wp2_with (fail)
      go_loopw [6, 23] (fun v i wr => OnRel w w.heap.size xs x D v i wr) (fun _ i _ => x - (intOf i).toNat)
      case atStart => exact ⟨0, [], Nat.zero_le _, rfl, HP.out, Lo.nil _ _, Nat.zero_le _, rfl, HU0.out⟩
      case round =>
        obtain ⟨i, o, hik, rfl, hp, ho, hol, hoc, hU⟩ := hrel
        have HOC := Lib.hid hoc
        have HUp := Lib.hid hU
        clear hoc
        by_cases hlt : i < x
        · obtain ⟨p, rfl, hcp, hcp2⟩ := (HR.out.up hU).at_ hlt
          have hlx : i < xs.length := by rw [HN.out]; exact hlt
          have hin := getD_mem (0, 0) hlx
          have ha : OkE (xs.getD i (0, 0)) := HK.out _ hin
          have hst := Lib.hid (onc_step hlx)
          have hll := lst_last xs i hlx
          have HV := Lib.hid (HF.out.v _ (.lit (.int .i64 0)) ha hin)
          clear hin
          generalize xs.getD i (0, 0) = a at hcp hcp2 ha hst hll HV
          have hkey := keyE ha
          have hO := Lib.hid (own_ne_obj ho (by obtain ⟨es, clock, hb, _⟩ := hp; exact ⟨_, hb, rfl⟩))
          obtain ⟨a1, a2⟩ := a
          simp only [] at hcp hcp2
          by_cases hd : (a1, a2) ∈ xs.drop (i + 1)
          · have hne : lst xs (a1, a2) ≠ i := fun q => hll.1 q hd
            rw [if_pos hd] at hst
            generalize lst xs (a1, a2) = z at HV hne
            have hb2 : ((z : Int) == (i : Int)) = false := beq_eq_false_iff_ne.2 (by omega)
            clear hll hd hne ha hU
            go_wp2_with (at_lookup; refine wpList_lookup_own_int _ rfl _ _ 50 rfl 25 3 .i64 lawE Try.underlying50 Try.underlying3 (zeroI _) w.heap.size x D rfl (hp.alloc _) _ _ rfl hkey ?_; intro c hat hwc; obtain rfl : (z : Int) = c := (by rw [HV.out] at hat; injection hat with hat; injection hat with _ hat); clear hat)
            go_roundw
            case rel => exact ⟨i + 1, o, by omega, by go_num, hp.alloc _, World.ownsRow.alloc ho _, by omega, by rw [HOC.out, hst.out], HUp.out.alloc _⟩
            case measure => simp [intOf]; omega
          · have hne : lst xs (a1, a2) = i := hll.2 hd
            rw [if_neg hd] at hst
            rw [hne] at HV
            clear hll hd hne ha hU
            go_wp2_with (first
              | (at_lookup; refine wpList_lookup_own_int _ rfl _ _ 50 rfl 25 3 .i64 lawE Try.underlying50 Try.underlying3 (zeroI _) w.heap.size x D rfl (hp.alloc _) _ _ rfl hkey ?_; intro c hat hwc; obtain rfl : (i : Int) = c := (by rw [HV.out] at hat; injection hat with hat; injection hat with _ hat); clear hat)
              | (at_builtin; refine wpList_own rfl _ _ rfl w.heap.size _ o rfl (World.ownsRow.alloc (World.ownsRow.alloc ho _) _) ⟨wr.heap.size + 1, 0, none⟩ [(a1, a2)] 1 1 rfl rfl (row_of_blk (xs := [(a1, a2)]) (Blk.new' _ (by simp) _ _)) (by omega) (by omega) (by have := HUp.out.size; simp; omega) ?_; intro g cap w4 hown4 hgrow4))
            refine ⟨⟨i + 1, o ++ [(a1, a2)], by omega, by go_num, ((hp.alloc _).alloc _).kept hgrow4 (fun e => ?_), hown4, by simp; omega, by rw [HOC.out, hst.out]; simp, Up.own ((HUp.out.alloc _).alloc _) (World.ownsRow.alloc (World.ownsRow.alloc ho _) _) hgrow4⟩, by simp [intOf]; omega⟩
            have e : some w.heap.size = u6.ownBlock := e
            rcases hO.out with q | q
            · rw [q] at e; cases e
            · exact q e.symm
        · obtain rfl : i = x := by omega
          have HO := Lib.hid ho
          clear hU ho hp
          go_wp2
          go_ret
          have h := HOC.out
          rw [← HN.out, List.drop_length] at h
          refine ⟨u6, rfl, ?_, HUp.out⟩
          rw [h, show onc [] = [] from rfl, List.append_nil]
          exact HO.out
end Go.Proofs.Ytgofejhjnbnecaa
