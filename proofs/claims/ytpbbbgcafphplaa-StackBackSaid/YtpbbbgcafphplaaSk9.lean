/- All addresses, each once, by definition (the document's All): contracts. -/
import Derived.Test.YtpbbbgcafphplaaSk8
namespace Go.Proofs.Ytpbbbgcafphplaa
open Go.Joins Go.ChangeShapes Go.WideShapes Go.ChangeAt Go.RowKit Go.Deep Go.Shelf Go.Maps
set_option linter.unusedVariables false
set_option linter.unusedSimpArgs false

def RaOut (w : World) (n : Nat) (L : List (List Int)) (u3 u4 : Value) (wr : World) : Prop :=
  ∃ x : Nat, x ≤ n ∧ u4 = .int .i64 x ∧ Lo wr w.heap.size u3 (unq (L.take x).flatten) ∧ Up w wr
def RaIn (w : World) (k x : Nat) (L : List (List Int)) (xs : List Int) (u3 u5 : Value) (wr : World) : Prop :=
  ∃ h : Nat, h ≤ k ∧ u5 = .int .i64 h ∧ Lo wr w.heap.size u3 (unq ((L.take x).flatten ++ xs.take h)) ∧ Up w wr
set_option maxRecDepth 100000 in
set_option maxHeartbeats 8000000 in
theorem rall_any (v : Value) (L : List (List Int)) (w : World) (hL : Rw w v L) (hN : L.flatten.length ≤ 17592186044415) :
    Calls Try.prog 22 #[v] w (Rows1 w (unq L.flatten)) := by
  have hLm := hL.max
  have HL := Lib.hid hL
  have HN := Lib.hid hN
  obtain ⟨A, c, rfl, -⟩ := hL
  generalize hn : L.length = n at *
  have HNL := Lib.hid hn
  clear hn hN
  unfold maxLen at hLm
  go_enter Try.func22, Try.ntmps22
  go_wp2_with (fail)
  go_loopw [3, 4] (fun u3 u4 wr => RaOut w n L u3 u4 wr) (fun _ u4 _ => n - (intOf u4).toNat)
  case atStart => exact ⟨0, Nat.zero_le _, rfl, Lo.nil _ _, Up.refl _⟩
  case round =>
    rename World => wb
    obtain ⟨x, hxn, rfl, hlo, hU⟩ := hrel
    by_cases hlt : x < n
    · obtain ⟨p, u, rfl, hcu, hsu⟩ := HL.out.at_ hlt
      have hlx : x < L.length := by rw [HNL.out]; exact hlt
      have FS := Lib.hid (flat_step L hlx)
      have FI := Lib.hid (fun h => flat_in L (h := h) hlx)
      have hsm := hsu.max
      generalize L.getD x [] = xs at hsu FS FI hsm
      have HS0 := Lib.hid hsu
      have HCU := Lib.hid hcu
      obtain ⟨Au, cu, rfl, -⟩ := hsu
      generalize hk : xs.length = k at *
      have HK := Lib.hid hk
      unfold maxLen at hsm
      have HLO := Lib.hid hlo
      have HU := Lib.hid hU
      clear hlo hU hk hcu
      go_wp2_with (fail)
      go_loopw [3, 5] (fun u3 u5 wr => RaIn w k x L xs u3 u5 wr) (fun _ u5 _ => k - (intOf u5).toNat)
      case atStart => exact ⟨0, Nat.zero_le _, rfl, by rw [List.take_zero, List.append_nil]; exact HLO.out, HU.out⟩
      case round =>
        clear HLO HU
        obtain ⟨h, hhk, rfl, hlo, hU⟩ := hrel
        have hcu := hU.cell HCU.out
        by_cases hh : h < k
        · obtain ⟨pu, rfl, hca⟩ := (HS0.out.up hU).rd.at_ hh
          have hlh : h < xs.length := by rw [HK.out]; exact hh
          have TX := Lib.hid (take_one 0 hlh)
          have HP := Lib.hid (FI.out (h + 1))
          generalize xs.getD h 0 = a at hca TX
          have hUQ : Hid (unq ((L.take x).flatten ++ xs.take (h + 1)) = if a ∈ 0 :: unq ((L.take x).flatten ++ xs.take h) then unq ((L.take x).flatten ++ xs.take h) else unq ((L.take x).flatten ++ xs.take h) ++ [a]) := Lib.hid (by
            rw [TX.out, ← List.append_assoc]
            exact unq_snoc _ _)
          have hul : (unq ((L.take x).flatten ++ xs.take h)).length + 1 ≤ 17592186044416 := by
            have h1 := unq_len ((L.take x).flatten ++ xs.take h)
            have h2 := (HP.out).length_le
            rw [TX.out] at h2
            have h3 := HN.out
            simp only [List.length_append, List.length_cons, List.length_nil] at h1 h2
            omega
          generalize unq ((L.take x).flatten ++ xs.take h) = out at *
          have hhs := Lib.hid (has_any u3 out a wr (Sl.of_lo hlo))
          have hsl : ∃ A n c, u3 = .slice A n c := (Sl.of_lo hlo).slice
          obtain ⟨A3, n3, c3, rfl⟩ := hsl
          have HLO := Lib.hid hlo
          have HU := Lib.hid hU
          clear hlo hU
          by_cases h0 : a = 0
          · subst h0
            have hE := hUQ.out
            rw [if_pos (by simp)] at hE
            have HE := Lib.hid hE
            generalize decide ((0 : Int) ∈ out) = bo at hhs
            clear hE hUQ
            go_wp2_with (fail)
            refine hhs.out.mono ?_
            rintro e w3 ⟨rfl, h3⟩
            have hcu3 := h3.cell hcu
            have hca3 := h3.cell hca
            have HLO3 := Lib.hid (HLO.out.up h3)
            have HU3 := Lib.hid (HU.out.trans h3)
            clear h3 hcu hca HLO HU hhs
            go_wp2
            exact ⟨⟨h + 1, by omega, by go_num, by rw [HE.out]; exact HLO3.out, HU3.out⟩, by simp [intOf]; omega⟩
          · have hb0 : (a != 0) = true := bne_iff_ne.2 h0
            by_cases hin : a ∈ out
            · rw [decide_eq_true hin] at hhs
              have hE := hUQ.out
              rw [if_pos (by simp [hin])] at hE
              have HE := Lib.hid hE
              clear hE hUQ hin h0
              go_wp2_with (fail)
              refine hhs.out.mono ?_
              rintro e w3 ⟨rfl, h3⟩
              have hcu3 := h3.cell hcu
              have hca3 := h3.cell hca
              have HLO3 := Lib.hid (HLO.out.up h3)
              have HU3 := Lib.hid (HU.out.trans h3)
              clear h3 hcu hca HLO HU hhs
              go_wp2
              exact ⟨⟨h + 1, by omega, by go_num, by rw [HE.out]; exact HLO3.out, HU3.out⟩, by simp [intOf]; omega⟩
            · rw [decide_eq_false hin] at hhs
              have hE := hUQ.out
              rw [if_neg (by simp [hin, h0])] at hE
              have HE := Lib.hid hE
              clear hE hUQ hin h0
              go_wp2_with (fail)
              refine hhs.out.mono ?_
              rintro e w3 ⟨rfl, h3⟩
              have hcu3 := h3.cell hcu
              have hca3 := h3.cell hca
              have hlo3 := HLO.out.up h3
              have HU3 := Lib.hid (HU.out.trans h3)
              have hsz := (HU3.out.alloc (.cells #[.int .u64 a] 23)).size
              clear h3 hcu hca HLO HU hhs
              go_wp2_with (at_builtin; refine wpList_own rfl _ _ rfl w.heap.size _ out rfl (World.ownsRow.alloc hlo3 _) ⟨w3.heap.size, 0, none⟩ [a] 1 1 rfl rfl (Blk.row (xs := [a]) (Blk.new _ _ _)) (by omega) hul hsz ?_; intro g cap w5 hown hg)
              have HUE := Lib.hid (Up.own (HU3.out.alloc _) (World.ownsRow.alloc hlo3 _) hg)
              have HOE := Lib.hid hown
              clear hown hg hlo3
              exact ⟨⟨h + 1, by omega, by go_num, by rw [HE.out]; exact HOE.out, HUE.out⟩, by simp [intOf]; omega⟩
        · obtain rfl : h = k := by omega
          rw [show xs.take h = xs from List.take_of_length_le (by rw [HK.out]; exact Nat.le_refl _), ← FS.out] at hlo
          have HLO := Lib.hid hlo
          have HU := Lib.hid hU
          clear hlo hU
          go_wp2
          exact ⟨⟨x + 1, by omega, by go_num, HLO.out, HU.out⟩, by simp [intOf]; omega⟩
    · obtain rfl : x = n := by omega
      rw [List.take_of_length_le (by rw [HNL.out]; exact Nat.le_refl _)] at hlo
      have hsl : ∃ A n c, u3 = .slice A n c := (Sl.of_lo hlo).slice
      obtain ⟨A3, n3, c3, rfl⟩ := hsl
      have HLO := Lib.hid hlo
      have HU := Lib.hid hU
      clear hlo hU
      go_wp2
      go_ret
      exact ⟨_, rfl, HLO.out, HU.out⟩
end Go.Proofs.Ytpbbbgcafphplaa
