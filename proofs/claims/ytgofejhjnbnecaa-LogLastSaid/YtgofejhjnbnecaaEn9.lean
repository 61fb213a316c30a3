/- Entries, each once (the document's Once): the contract. -/
import Derived.Test.YtgofejhjnbnecaaEn8
namespace Go.Proofs.Ytgofejhjnbnecaa
open Go.Joins Go.ChangeShapes Go.WideShapes Go.ChangeAt Go.RowKit Go.Deep Go.Shelf Go.Maps
set_option linter.unusedVariables false
set_option linter.unusedSimpArgs false

def RoRel (w : World) (xs : List Ent) (n : Nat) (u3 i : Value) (wr : World) : Prop :=
  ∃ (x : Nat) (o : List Ent), x ≤ n ∧ i = .int .i64 x ∧ Lo wr w.heap.size u3 o ∧ o.length ≤ x ∧ onc xs = o ++ onc (xs.drop x) ∧ Up w wr
def RiRel (wb : World) (a : Ent) (xs : List Ent) (n i : Nat) (u5 u6 : Value) (wr : World) : Prop :=
  ∃ (k : Nat) (q : Bool), i + 1 ≤ k ∧ k ≤ n ∧ u5 = .bool q ∧ u6 = .int .i64 k ∧ (q || decide (a ∈ xs.drop k)) = decide (a ∈ xs.drop (i + 1)) ∧ ∃ m, wr = wb.drewN m
theorem in_step {xs : List Ent} {k : Nat} (a : Ent) (h : k < xs.length) (q : Bool) : ((q || decide (xs.getD k (0, 0) = a)) || decide (a ∈ xs.drop (k + 1))) = (q || decide (a ∈ xs.drop k)) := by
  rw [drop_one (0, 0) h]
  by_cases e : xs.getD k (0, 0) = a
  · rw [e]; simp
  · have e2 : ¬ a = xs.getD k (0, 0) := fun z => e z.symm
    rw [Bool.or_assoc]
    congr 1
    rw [decide_eq_false e, Bool.false_or]
    by_cases e3 : a ∈ xs.drop (k + 1)
    · rw [decide_eq_true e3, decide_eq_true (List.mem_cons_of_mem _ e3)]
    · rw [decide_eq_false e3, decide_eq_false (fun z => (List.mem_cons.1 z).elim e2 e3)]
theorem bE_eq (a b c d : Int) : bE a b c d = decide ((a, b) = (c, d)) := by
  unfold bE
  by_cases h : a = c ∧ b = d
  · obtain ⟨rfl, rfl⟩ := h; simp
  · rw [decide_eq_false h, decide_eq_false (fun q => h (by injection q with q1 q2; exact ⟨q1, q2⟩))]
set_option maxHeartbeats 4000000 in
theorem ronce_any (v : Value) (xs : List Ent) (w : World) (hx : Sl w v xs) (hb : xs.length ≤ 8796093022208) : Calls Try.prog 19 #[v] w (OwPost (onc xs) w) := by
  obtain ⟨A, c, rfl, -, -, -, hr⟩ := hx
  generalize hn : xs.length = n at *
  have HR := Lib.hid hr
  have HN := Lib.hid hn
  clear hr hn
  go_enter Try.func19, Try.ntmps19
  go_wp2_with (fail)
  go_loopw [3, 4] (fun v i wr => RoRel w xs n v i wr) (fun _ i _ => n - (intOf i).toNat)
  case atStart => exact ⟨0, [], Nat.zero_le _, rfl, Lo.nil _ _, Nat.zero_le _, rfl, Up.refl _⟩
  case round =>
    rename World => wb
    obtain ⟨i, o, hin, rfl, ho, hol, hoc, hU⟩ := hrel
    have HOC := Lib.hid hoc
    have HUp := Lib.hid hU
    have HO := Lib.hid ho
    clear hoc ho
    by_cases hlt : i < n
    · obtain ⟨p, rfl, hcp, hcp2⟩ := (HR.out.up hU).at_ hlt
      have hlx : i < xs.length := by rw [HN.out]; exact hlt
      have hst := Lib.hid (onc_step hlx)
      generalize xs.getD i (0, 0) = a at hcp hcp2 hst
      obtain ⟨a1, a2⟩ := a
      simp only [] at hcp hcp2
      clear hU
      go_wp2_with (fail)
      go_loopw [5, 6] (fun u5 u6 wr => RiRel wb (a1, a2) xs n i u5 u6 wr) (fun _ k _ => n - (intOf k).toNat)
      case atStart => exact ⟨i + 1, false, Nat.le_refl _, hlt, rfl, by go_num, rfl, 0, rfl⟩
      case round =>
        obtain ⟨k, q, hk1, hkn, rfl, rfl, hq, m, rfl⟩ := hrel
        have HQ := Lib.hid hq
        clear hq
        by_cases hkl : k < n
        · obtain ⟨p', e', hcq, hcq2⟩ := (HR.out.up HUp.out).at_ hkl
          cases e'
          have hlk : k < xs.length := by rw [HN.out]; exact hkl
          have IS := Lib.hid (in_step (a1, a2) hlk q)
          generalize xs.getD k (0, 0) = b at hcq hcq2 IS
          obtain ⟨b1, b2⟩ := b
          simp only [] at hcq hcq2
          cases q
          · have he := eq_ent b1 b2 a1 a2
            have E := Lib.hid (bE_eq b1 b2 a1 a2)
            generalize bE b1 b2 a1 a2 = q2 at he E
            go_wp2_with (fail)
            go_quiet (fail)
            go_wp2_with (fail)
            exact ⟨⟨k + 1, q2, by omega, by omega, rfl, by go_num, by rw [← HQ.out, ← IS.out, E.out, Bool.false_or], m + nq, rfl⟩, by simp [intOf]; omega⟩
          · go_wp2_with (fail)
            go_quiet (fail)
            go_wp2_with (fail)
            exact ⟨⟨k + 1, true, by omega, by omega, rfl, by go_num, by rw [← HQ.out]; rfl, m + nq, rfl⟩, by simp [intOf]; omega⟩
        · obtain rfl : k = n := by omega
          have hq2 : q = decide ((a1, a2) ∈ xs.drop (i + 1)) := by
            have h := HQ.out
            rw [← HN.out, List.drop_length] at h
            rw [← h]
            simp
          have hU1 := HUp.out.drewN m
          have hO1 := HO.out.up ((Up.refl wb).drewN m)
          have hcp1 : (wb.drewN m).cell? (p.add (i * 2)) = some (.int .u64 a1) := hcp
          have hcp3 : (wb.drewN m).cell? (nxt (p.add (i * 2))) = some (.int .i64 a2) := hcp2
          generalize World.drewN wb m = W1 at hU1 hO1 hcp1 hcp3 ⊢
          have HU1 := Lib.hid hU1
          have hst2 := hst.out
          cases q
          · have hd : ¬ (a1, a2) ∈ xs.drop (i + 1) := of_decide_eq_false hq2.symm
            rw [if_neg hd] at hst2
            have HS2 := Lib.hid hst2
            clear hst2 hd hq2 hst hcp hcp2 HO HUp HQ hU1
            go_wp2_with (at_builtin; refine wpList_own rfl _ _ rfl w.heap.size _ o rfl (World.ownsRow.alloc hO1 _) ⟨W1.heap.size, 0, none⟩ [(a1, a2)] 1 1 rfl rfl (row_of_blk (xs := [(a1, a2)]) (Blk.new _ _ _)) (by omega) (by omega) (by have := HU1.out.size; simp; omega) ?_; intro g cap w4 hown4 hgrow4)
            exact ⟨⟨i + 1, o ++ [(a1, a2)], by omega, by go_num, hown4, by simp; omega, by rw [HOC.out, HS2.out]; simp, Up.own (HU1.out.alloc _) (World.ownsRow.alloc hO1 _) hgrow4⟩, by simp [intOf]; omega⟩
          · have hd : (a1, a2) ∈ xs.drop (i + 1) := of_decide_eq_true hq2.symm
            rw [if_pos hd] at hst2
            have HS2 := Lib.hid hst2
            have HO1 := Lib.hid hO1
            clear hst2 hd hq2 hst hcp hcp2 HO HUp HQ hU1 hO1
            go_wp2_with (fail)
            exact ⟨⟨i + 1, o, by omega, by go_num, HO1.out, by omega, by rw [HOC.out, HS2.out], HU1.out⟩, by simp [intOf]; omega⟩
    · obtain rfl : i = n := by omega
      clear hU
      go_wp2
      go_ret
      have h := HOC.out
      rw [← HN.out, List.drop_length] at h
      refine ⟨u3, rfl, ?_, HUp.out⟩
      rw [h, show onc [] = [] from rfl, List.append_nil]
      exact HO.out
end Go.Proofs.Ytgofejhjnbnecaa
