/- How many entries there are (package log: Many, a goto; the document's Many): contracts. -/
import Derived.Test.YtgofejhjnbnecaaEn5
namespace Go.Proofs.Ytgofejhjnbnecaa
open Go.Joins Go.ChangeShapes Go.WideShapes Go.ChangeAt Go.RowKit Go.Deep Go.Shelf Go.Maps
set_option linter.unusedVariables false
set_option linter.unusedSimpArgs false

/-- How many entries, reckoned as the machine reckons. -/
def mny : List (List Ent) → Int → Int
  | [], a => a
  | r :: L, a => mny L (wrap64 (a + r.length))
theorem wrap_id {a : Int} (h : I64 a) : wrap64 a = a := by unfold I64 at h; unfold wrap64; omega
theorem wrap_i64 (a : Int) : I64 (wrap64 a) := by unfold I64 wrap64; omega
theorem mny_step {L : List (List Ent)} {i : Nat} (h : i < L.length) (a : Int) : mny (L.drop i) a = mny (L.drop (i + 1)) (wrap64 (a + (L.getD i []).length)) := by rw [drop_one [] h]; rfl
theorem mny_skip (L : List (List Ent)) (a : Int) (ha : I64 a) : ∀ k i, i + k ≤ L.length → (∀ j, i ≤ j → j < i + k → L.getD j [] = []) → mny (L.drop i) a = mny (L.drop (i + k)) a
  | 0, i, _, _ => rfl
  | k + 1, i, h, hz => by
    rw [mny_step (by omega), hz i (Nat.le_refl _) (by omega), show a + (([] : List Ent).length : Int) = a from by simp, wrap_id ha, mny_skip L a ha k (i + 1) (by omega) (fun j h1 h2 => hz j (by omega) (by omega)), show i + 1 + k = i + (k + 1) from by omega]
theorem fdn_empty {L : List (List Ent)} {i j : Nat} (h1 : i ≤ j) (h2 : j < fdn L i) : L.getD j [] = [] := by
  unfold fdn at h2
  have h := List.not_of_lt_findIdx (p := fun (r : List Ent) => !r.isEmpty) (xs := L.drop i) (i := j - i) (by omega)
  rw [List.getElem_drop] at h
  have hj : j < L.length := by
    have := List.findIdx_le_length (p := fun (r : List Ent) => !r.isEmpty) (xs := L.drop i)
    rw [List.length_drop] at this
    omega
  have e : L.getD j [] = L[i + (j - i)]'(by omega) := by
    simp only [List.getD, List.getElem?_eq_getElem hj, Option.getD_some]
    congr 1
    omega
  rw [e]
  simpa using h
theorem mny_fdn {L : List (List Ent)} {i : Nat} {a : Int} (ha : I64 a) (hi : i ≤ L.length) : mny (L.drop i) a = mny (L.drop (fdn L i)) a := by
  have h := mny_skip L a ha (fdn L i - i) i (by have := fdn_le hi; have := fdn_ge L i; omega) (fun j h1 h2 => fdn_empty h1 (by have := fdn_ge L i; omega))
  rw [h, show i + (fdn L i - i) = fdn L i from by have := fdn_ge L i; omega]
set_option maxHeartbeats 1000000 in
theorem rmany_any (v : Value) (L : List (List Ent)) (w : World) (hL : Rw w v L) : Calls Try.prog 21 #[v] w fun e w' => e = .returned (.int .i64 (mny L 0)) ∧ w = w' := by
  have hm := hL.max
  have HL := Lib.hid hL
  obtain ⟨A, c, rfl, -⟩ := hL
  generalize hn : L.length = n at *
  have HN := Lib.hid hn
  unfold maxLen at hm
  clear hn
  go_enter Try.func21, Try.ntmps21
  go_wp2
  go_loop [3, 4] (fun s i => ∃ (j : Nat) (a : Int), j ≤ n ∧ i = .int .i64 j ∧ s = .int .i64 a ∧ I64 a ∧ mny L 0 = mny (L.drop j) a) (fun _ i => n - (intOf i).toNat)
  case atStart => exact ⟨0, 0, Nat.zero_le _, rfl, rfl, by unfold I64; omega, rfl⟩
  case round =>
    obtain ⟨j, a, hj, rfl, rfl, ha, hfd⟩ := hrel
    have HFD := Lib.hid hfd
    have HA := Lib.hid ha
    clear hfd ha
    by_cases hlt : j < n
    · obtain ⟨p, u, rfl, hcu, hsu⟩ := HL.out.at_ hlt
      have hlx : j < L.length := by rw [HN.out]; exact hlt
      have HS := Lib.hid (mny_step hlx a)
      have hml := hsu.max
      obtain ⟨Au, cu, rfl, -⟩ := hsu
      generalize (L.getD j []).length = k at *
      go_wp2
      go_round
      case rel => exact ⟨j + 1, wrap64 (a + k), by omega, by go_num, rfl, wrap_i64 _, HFD.out.trans HS.out⟩
      case measure => simp [intOf]; omega
    · obtain rfl : j = n := by omega
      go_wp2
      go_ret
      refine ⟨?_, rfl⟩
      rw [HFD.out, ← HN.out, List.drop_length]
      rfl
/-- What holds at the label. -/
def AtM (w : World) (n : Nat) (A : Option Addr) (c : Nat) (L : List (List Ent)) (a' : Act) (w' : World) : Prop :=
  ∃ (i : Nat) (a : Int) (u5 u6 u9 u10 u11 u12 u13 u14 u15 u16 u17 u18 u19 u20 u21 u22 : Value),
    a' = { tmps := #[.slice A n c, undef, .int .i64 0, .int .i64 a, .func (.func 24) #[] #[bx (w.heap.size + 1), bx w.heap.size], u5, u6, .slice A n c, .func (.func 24) #[] #[bx (w.heap.size + 1), bx w.heap.size], u9, u10, u11, u12, u13, u14, u15, u16, u17, u18, u19, u20, u21, u22], defers := [] }
      ∧ i ≤ n ∧ I64 a ∧ mny L 0 = mny (L.drop i) a ∧ FnOk w' (w.heap.size + 1) w.heap.size (.slice A n c) i ∧ Up w w'
set_option maxHeartbeats 2000000 in
theorem many_any (v : Value) (L : List (List Ent)) (w : World) (hL : Rw w v L) : Calls Try.prog 20 #[v] w fun e w' => e = .returned (.int .i64 (mny L 0)) ∧ Up w w' := by
  have hf := Lib.hid (finder_any v (by obtain ⟨A, c, e, _⟩ := hL; exact ⟨_, _, _, e⟩) w)
  have hc := Lib.hid (fun (i : Nat) (w' : World) (h0 : Up w w') (h : FnOk w' (w.heap.size + 1) w.heap.size v i) (hi : i ≤ L.length) => next_cl v L (w.heap.size + 1) w.heap.size i w w' hL h0 (by omega) h hi)
  have hm := hL.max
  have HL := Lib.hid hL
  obtain ⟨A, c, rfl, -⟩ := hL
  generalize hn : L.length = n at *
  have HN := Lib.hid hn
  unfold maxLen at hm
  clear hn
  go_enter Try.func20, Try.ntmps20
  go_wp2
  refine wp_scope_jumps 0 (AtM w n A c L) (fun a' w' => (n - atOf w' (w.heap.size + 1)).toNat) rfl ?_ ?_
  · go_wp2_with (fail)
    refine hf.out.mono ?_
    rintro e w1 ⟨rfl, hfo, hU⟩
    go_wp2_with (fail)
    go_step3
    go_wp2_with (fail)
    have HM : Hid (mny L 0 = mny (L.drop 0) 0) := Lib.hid rfl
    have HA : Hid (I64 0) := Lib.hid (by unfold I64; omega)
    have hi : 0 ≤ n := Nat.zero_le n
    have hU2w : w.heap.size ∉ [w.heap.size + 1] := by simp
    have hat := Lib.hid (atOf_blk hfo.a)
    have HI := Lib.hid hi
    have hci := hc.out 0 _ hU hfo hi
    have hfl := Lib.hid hfo.l
    have hge := fdn_ge L 0
    have hle := fdn_le (L := L) (i := 0) (by rw [HN.out]; exact hi)
    have HM2 := Lib.hid (HM.out.trans (mny_fdn HA.out (by rw [HN.out]; exact hi)))
    have hci := Lib.hid hci
    have HU := Lib.hid hU
    clear hfo hU hi HM
    refine hci.out.mono ?_
    rintro e w2 ⟨rfl, hb, hk⟩
    clear hci
    unfold fdo
    rw [HN.out] at hle ⊢
    generalize fdn L 0 = j at *
    have hfo2 : Hid (FnOk w2 (w.heap.size + 1) w.heap.size (.slice A n c) (j + 1)) := Lib.hid ⟨by rw [show (((j + 1 : Nat) : Int) - 1) = (j : Int) from by omega]; exact hb, hfl.out.kp hk hU2w⟩
    have U2 := HU.out.kp hk (fun x hx => by rw [List.mem_singleton.1 hx]; omega)
    have hat2 := Lib.hid (atOf_blk hb)
    clear hb hk HU hfl
    by_cases hlt : j < n
    · have hlx : j < L.length := by rw [HN.out]; exact hlt
      rw [decide_eq_true hlt, if_pos hlt]
      obtain ⟨p, u, rfl, hcu, hsu⟩ := (HL.out.up U2).at_ hlt
      have HS0 := mny_step hlx 0
      rw [Int.zero_add] at HS0
      have HS := Lib.hid HS0
      clear HS0
      have hml := hsu.max
      obtain ⟨Au, cu, rfl, -⟩ := hsu
      generalize (L.getD j []).length = k at *
      have HU2 := Lib.hid U2
      clear U2
      go_wp2_with (fail)
      go_step3
      refine ⟨rfl, ⟨j + 1, wrap64 k, _, _, _, _, _, _, _, _, _, _, _, _, _, _, _, _, rfl, by omega, wrap_i64 _, HM2.out.trans HS.out, hfo2.out, HU2.out⟩⟩
    · obtain rfl : j = n := by omega
      rw [decide_eq_false hlt, if_neg hlt]
      have HU2 := Lib.hid U2
      have HD := Lib.hid (HM2.out.trans (by rw [← HN.out, List.drop_length]))
      clear U2 hlt
      go_wp2_with (fail)
      simp only [Exit.jump]
      go_ret
      exact ⟨by rw [HD.out]; rfl, HU2.out⟩
  · rintro a' w1 ⟨i, a, u5, u6, u9, u10, u11, u12, u13, u14, u15, u16, u17, u18, u19, u20, u21, u22, rfl, hi, ha, hmn, hfo, hU⟩
    have HM := Lib.hid hmn
    have HA := Lib.hid ha
    clear ha hmn
    go_wp2_with (fail)
    have hU2w : w.heap.size ∉ [w.heap.size + 1] := by simp
    have hat := Lib.hid (atOf_blk hfo.a)
    have HI := Lib.hid hi
    have hci := hc.out i _ hU hfo hi
    have hfl := Lib.hid hfo.l
    have hge := fdn_ge L i
    have hle := fdn_le (L := L) (i := i) (by rw [HN.out]; exact hi)
    have HM2 := Lib.hid (HM.out.trans (mny_fdn HA.out (by rw [HN.out]; exact hi)))
    have hci := Lib.hid hci
    have HU := Lib.hid hU
    clear hfo hU hi HM
    refine hci.out.mono ?_
    rintro e w2 ⟨rfl, hb, hk⟩
    clear hci
    unfold fdo
    rw [HN.out] at hle ⊢
    generalize fdn L i = j at *
    have hfo2 : Hid (FnOk w2 (w.heap.size + 1) w.heap.size (.slice A n c) (j + 1)) := Lib.hid ⟨by rw [show (((j + 1 : Nat) : Int) - 1) = (j : Int) from by omega]; exact hb, hfl.out.kp hk hU2w⟩
    have U2 := HU.out.kp hk (fun x hx => by rw [List.mem_singleton.1 hx]; omega)
    have hat2 := Lib.hid (atOf_blk hb)
    clear hb hk HU hfl
    by_cases hlt : j < n
    · have hlx : j < L.length := by rw [HN.out]; exact hlt
      rw [decide_eq_true hlt, if_pos hlt]
      obtain ⟨p, u, rfl, hcu, hsu⟩ := (HL.out.up U2).at_ hlt
      have HS0 := mny_step hlx a
      have HS := Lib.hid HS0
      clear HS0
      have hml := hsu.max
      obtain ⟨Au, cu, rfl, -⟩ := hsu
      generalize (L.getD j []).length = k at *
      have HU2 := Lib.hid U2
      clear U2
      go_wp2_with (fail)
      go_step3
      refine ⟨rfl, ⟨j + 1, wrap64 (a + k), _, _, _, _, _, _, _, _, _, _, _, _, _, _, _, _, rfl, by omega, wrap_i64 _, HM2.out.trans HS.out, hfo2.out, HU2.out⟩, ?_⟩
      rw [hat2.out, hat.out]
      omega
    · obtain rfl : j = n := by omega
      rw [decide_eq_false hlt, if_neg hlt]
      have HU2 := Lib.hid U2
      have HD := Lib.hid (HM2.out.trans (by rw [← HN.out, List.drop_length]))
      clear U2 hlt
      go_wp2_with (fail)
      simp only [Exit.jump]
      go_ret
      exact ⟨by rw [HD.out]; rfl, HU2.out⟩
end Go.Proofs.Ytgofejhjnbnecaa
