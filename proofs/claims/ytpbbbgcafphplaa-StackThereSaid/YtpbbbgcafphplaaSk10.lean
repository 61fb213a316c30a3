/- What a statement on stacks is handed, opened: rows of words, rows of rows, how many there are at most; and the document's example. -/
import Derived.Test.YtpbbbgcafphplaaSk9
import Derived.Deep.Matrix
import Derived.SizedLaws
namespace Go.Proofs.Ytpbbbgcafphplaa
open Go.Joins Go.ChangeShapes Go.WideShapes Go.ChangeAt Go.RowKit Go.Deep Go.Shelf Go.Maps
set_option linter.unusedVariables false
set_option linter.unusedSimpArgs false

/-! ### How much there is -/
theorem bulk_one {H : Type} (d : DataW H) : 1 ≤ Rows.uptoBulk d := by
  cases d with
  | lit l => cases l <;> simp [Rows.uptoBulk]
  | nil => simp [Rows.uptoBulk]
  | ptr d => simp [Rows.uptoBulk]
  | slice elems spare => simp [Rows.uptoBulk]
  | agg parts => simp [Rows.uptoBulk]
  | iface t d => simp [Rows.uptoBulk]
  | map entries => simp [Rows.uptoBulk]
  | held h => simp [Rows.uptoBulk]
theorem bulk_len {H : Type} (l : List (DataW H)) : l.length ≤ Rows.uptoBulkAll l := by
  induction l with
  | nil => simp [Rows.uptoBulkAll]
  | cons x r ih => have := bulk_one x; simp only [Rows.uptoBulkAll, List.length_cons]; omega
theorem weights_in {H : Type} {P : Program} {e : TypeId} : ∀ {ds : List (DataW H)} {d : DataW H}, d ∈ ds → ∀ n ∈ d.weights P e, n ∈ DataW.weightsAll P e ds
  | x :: r, d, h, n, hn => by
    simp only [DataW.weightsAll, List.mem_append]
    rcases List.mem_cons.1 h with rfl | h
    · exact .inl hn
    · exact .inr (weights_in h n hn)
theorem bytes_u64 : Try.prog.bytesOf 23 = 8 := by kernel_rfl
theorem bytes_words : Try.prog.bytesOf 22 = 24 := by kernel_rfl
theorem cells_rows : Try.prog.cellsOf 24 = 1 := by kernel_rfl
/-- All weights are within reach. -/
def Light {H : Type} (t : TypeId) (d : DataW H) : Prop := ∀ n ∈ d.weights Try.prog t, n ≤ reachBytes
theorem row_light {H : Type} {A : Option Addr} {l : Nat} {zs : List Int} (hA : A = none → zs.length = 0) (h : Light (H := H) 22 (intRow .u64 A l zs)) : zs.length ≤ 17592186044416 := by
  cases A with
  | none => have := hA rfl; omega
  | some a =>
    have := h ((zs.take l).length * 8 + (zs.drop l).length * 8) (by
      unfold intRow DataW.weights
      rw [Try.underlying22]
      simp only [List.mem_cons, bytes_u64]
      left
      unfold lits
      rw [List.length_map, List.length_map]
      omega)
    rw [List.length_take, List.length_drop] at this
    unfold reachBytes at this
    omega
theorem row_bulk {H : Type} {A : Option Addr} {l : Nat} {zs : List Int} (hl : l ≤ zs.length) (hA : A = none → zs.length = 0) : l + 1 ≤ Rows.uptoBulk (H := H) (intRow .u64 A l zs) := by
  cases A with
  | none => have := hA rfl; simp only [intRow, Rows.uptoBulk]; omega
  | some a =>
    unfold intRow
    simp only [Rows.uptoBulk]
    have := bulk_len (H := H) (lits .u64 (zs.take l))
    have h2 : (lits (H := H) .u64 (zs.take l)).length = l := by simp [lits]; omega
    omega
theorem sum_bulk {H : Type} (D : Nat → DataW H) (Z : Nat → List Int) : ∀ n, (∀ r, r < n → (Z r).length + 1 ≤ Rows.uptoBulk (D r)) → ((List.range n).map Z).flatten.length + n ≤ Rows.uptoBulkAll ((List.range n).map D)
  | 0, _ => by simp [Rows.uptoBulkAll]
  | n + 1, h => by
    have ih := sum_bulk D Z n (fun r hr => h r (by omega))
    have h1 := h n (by omega)
    have ha : ∀ (l r : List (DataW H)), Rows.uptoBulkAll (l ++ r) = Rows.uptoBulkAll l + Rows.uptoBulkAll r := by
      intro l r
      induction l with
      | nil => simp [Rows.uptoBulkAll]
      | cons x l ih => simp only [List.cons_append, Rows.uptoBulkAll, ih]; omega
    rw [List.range_succ, List.map_append, List.map_append, ha]
    simp only [List.map_cons, List.map_nil, Rows.uptoBulkAll, List.flatten_append, List.length_append, List.flatten_cons, List.flatten_nil, List.append_nil]
    omega

/-! ### Opened -/
section
variable {H : Type} {enc : TypeId × Value → H} {w : World}
theorem row_sl {A : Option Addr} {l c : Nat} {zs : List Int} (h1 : l ≤ c) (h2 : c ≤ maxLen) (h3 : zs.length = c) (h4 : A = none → c = 0) (h5 : ∀ a', A = some a' → ∀ i, i < c → w.cell? (a'.add i) = some (.int .u64 (zs.getD i 0))) : Sl w (.slice A l c) (zs.take l) := by
  have hl : (zs.take l).length = l := by rw [List.length_take]; omega
  refine ⟨A, c, by rw [hl], by omega, h2, h4, by rw [hl], fun hp => ?_⟩
  rw [hl] at hp
  cases A with
  | none => have := h4 rfl; omega
  | some a =>
    refine ⟨a, rfl, ?_, fun j x hx => ?_⟩
    · have := lt_of_cell (h5 a rfl 0 (by omega))
      rwa [block_of_add] at this
    · have hj : j < l := by
        rcases Nat.lt_or_ge j (zs.take l).length with q | q
        · omega
        · rw [List.getElem?_eq_none q] at hx; cases hx
      rw [List.getElem?_take, if_pos hj] at hx
      rw [h5 a rfl j (by omega)]
      simp [List.getD, hx]
theorem u64_all {zs : List Int} (h : ∀ n ∈ zs, (Lit.int .u64 n).wf = true) (l : Nat) : ∀ x ∈ zs.take l, U64 x := fun x hx => u64_of_wf (h x (List.mem_of_mem_take hx))
theorem words_sl {fuel : Nat} {v : Value} {x : DataW H × List MemPlace} (h : DataW.trod enc Try.prog w 0 (fun _ => true) true fuel 22 [v] = some x) :
    ∃ xs, Sl w v xs ∧ (∀ y ∈ xs, U64 y) ∧ xs.length + 1 ≤ Rows.uptoBulk x.1 ∧ (Light 22 x.1 → xs.length ≤ 17592186044416) := by
  rcases open_ints Try.underlying22 Try.underlying23 cells_u64 h with ⟨h0, rfl⟩ | ⟨a, l, c, zs, hcs, -, hl, hm, hz, rfl, hc, hw⟩
  · simp only [List.cons.injEq, and_true] at h0
    subst h0
    exact ⟨[], Sl.nil w, fun y hy => (by cases hy), by simp [Rows.uptoBulk], fun _ => by simp⟩
  · simp only [List.cons.injEq, and_true] at hcs
    subst hcs
    simp only [if_true] at hz
    have hr : (DataW.slice (lits .u64 (zs.take l)) (lits .u64 (zs.drop l)) : DataW H) = intRow .u64 (some a) l zs := rfl
    refine ⟨zs.take l, row_sl hl hm hz (fun q => (by cases q)) (fun a' e i hi => by cases e; exact hc i (by omega)), u64_all hw l, ?_, fun hL => ?_⟩
    · show (zs.take l).length + 1 ≤ Rows.uptoBulk (intRow (H := H) .u64 (some a) l zs)
      rw [List.length_take]
      have := row_bulk (H := H) (A := some a) (l := l) (zs := zs) (by omega) (fun q => by cases q)
      omega
    · have := row_light (H := H) (A := some a) (l := l) (zs := zs) (fun q => by cases q) hL
      rw [List.length_take]
      omega
theorem rows_rw {fuel : Nat} {v : Value} {x : DataW H × List MemPlace} (h : DataW.trod enc Try.prog w 0 (fun _ => true) true fuel 24 [v] = some x) :
    ∃ L, Rw w v L ∧ (∀ xs ∈ L, ∀ y ∈ xs, U64 y) ∧ L.flatten.length + L.length ≤ Rows.uptoBulk x.1 ∧ (Light 24 x.1 → Fit L) := by
  rcases open_int_rows Try.underlying24 Try.underlying22 Try.underlying23 cells_words cells_u64 h with ⟨h0, rfl⟩ | ⟨a, l, c, A, Ln, C, Z, hcs, -, hl, hm, rfl, hr⟩
  · simp only [List.cons.injEq, and_true] at h0
    subst h0
    exact ⟨[], ⟨none, 0, rfl, Nat.le_refl _, Nat.zero_le _, fun _ => rfl, fun q => absurd q (by simp)⟩, fun xs hx => (by cases hx), by simp [Rows.uptoBulk], fun _ => ⟨fun xs hx => (by cases hx), fun xs hx => (by cases hx), by simp⟩⟩
  · simp only [List.cons.injEq, and_true] at hcs
    subst hcs
    have hU : ∀ xs ∈ (List.range l).map fun r => (Z r).take (Ln r), ∃ r, r < l ∧ xs = (Z r).take (Ln r) := fun xs hx => by
      obtain ⟨r, hrr, rfl⟩ := List.mem_map.1 hx
      exact ⟨r, List.mem_range.1 hrr, rfl⟩
    refine ⟨(List.range l).map fun r => (Z r).take (Ln r), ⟨some a, c, by simp, by simpa using hl, hm, fun q => (by cases q), fun hp => ?_⟩, fun xs hx => ?_, ?_, fun hL => ⟨fun xs hx => ?_, fun xs hx => ?_, ?_⟩⟩
    · have hlp : 0 < l := by simpa using hp
      refine ⟨a, rfl, ?_, fun j xs hj => ?_⟩
      · have := lt_of_cell (hr 0 (by omega)).1
        rwa [block_of_add] at this
      · have hjl : j < l := by
          rcases Nat.lt_or_ge j l with q | q
          · exact q
          · rw [List.getElem?_eq_none (by simpa using q)] at hj; cases hj
        rw [List.getElem?_map, List.getElem?_range hjl] at hj
        cases hj
        obtain ⟨h1, h2, h3, h4, h5, h6, h7⟩ := hr j (by omega)
        exact ⟨_, h1, row_sl h2 h3 h4 h6 (fun a' e => (h7 a' e).2)⟩
    · obtain ⟨r, hrl, rfl⟩ := hU xs hx
      exact u64_all (hr r (by omega)).2.2.2.2.1 _
    · have hs := sum_bulk (H := H) (fun r => intRow .u64 (A r) (Ln r) (Z r)) (fun r => (Z r).take (Ln r)) l (fun r hrl => by
        obtain ⟨h1, h2, h3, h4, h5, h6, h7⟩ := hr r (by omega)
        rw [List.length_take]
        have := row_bulk (H := H) (A := A r) (l := Ln r) (zs := Z r) (by omega) (fun q => by rw [h4]; exact h6 q)
        omega)
      simp only [List.length_map, List.length_range, Rows.uptoBulk]
      omega
    · obtain ⟨r, hrl, rfl⟩ := hU xs hx
      exact u64_all (hr r (by omega)).2.2.2.2.1 _
    · obtain ⟨r, hrl, rfl⟩ := hU xs hx
      obtain ⟨h1, h2, h3, h4, h5, h6, h7⟩ := hr r (by omega)
      have := row_light (H := H) (A := A r) (l := Ln r) (zs := Z r) (fun q => by rw [h4]; exact h6 q) (fun n hn => hL n (by
        unfold DataW.weights
        rw [Try.underlying24]
        simp only [List.mem_cons, List.mem_append]
        exact .inr (.inl (weights_in (List.mem_map.2 ⟨r, List.mem_range.2 hrl, rfl⟩) n hn))))
      rw [List.length_take]
      omega
    · have := hL (c * 24) (by
        unfold DataW.weights
        rw [Try.underlying24]
        simp only [List.mem_cons, bytes_words, List.length_map, List.length_range]
        left
        omega)
      rw [List.length_map, List.length_range]
      unfold reachBytes at this
      omega
set_option maxRecDepth 100000 in
theorem words_at {r : Reach} {b0 : Nat} {v : Value} {d : DataW H} {p : List MemPlace} (hv : Value.okWide Try.prog w r b0 22 v) (h : DataW.Trod enc Try.prog w 0 (fun _ => true) true 22 v d p) :
    ∃ xs, Sl w v xs ∧ (∀ y ∈ xs, U64 y) ∧ xs.length + 1 ≤ Rows.uptoBulk d ∧ (Light 22 d → xs.length ≤ 17592186044416) := by
  obtain ⟨a, len, cap, rfl⟩ := okWide_slice Try.underlying22 hv
  obtain ⟨fuel, hf⟩ := h
  exact words_sl (x := (d, p)) hf
set_option maxRecDepth 100000 in
theorem rows_at {r : Reach} {b0 : Nat} {v : Value} {d : DataW H} {p : List MemPlace} (hv : Value.okWide Try.prog w r b0 24 v) (h : DataW.Trod enc Try.prog w 0 (fun _ => true) true 24 v d p) :
    ∃ L, Rw w v L ∧ (∀ xs ∈ L, ∀ y ∈ xs, U64 y) ∧ L.flatten.length + L.length ≤ Rows.uptoBulk d ∧ (Light 24 d → Fit L) := by
  obtain ⟨a, len, cap, rfl⟩ := okWide_slice Try.underlying24 hv
  obtain ⟨fuel, hf⟩ := h
  exact rows_rw (x := (d, p)) hf
end

/-! ### The example -/
set_option maxHeartbeats 2000000 in
theorem shown_any (w : World) : Calls Try.prog 11 #[] w fun e w' => e = .returned (.bool true) ∧ Up w w' := by
  go_enter Try.func11, Try.ntmps11
  go_wp2_with (fail)
  refine (push_any (.slice none 0 0) [] 7 _ (Sl.nil _)).mono ?_
  rintro e w1 ⟨v, rfl, hs, hu⟩
  rw [show pue [] = 0 from by decide]
  rw [show pus [] 7 = [7] from by decide] at hs
  have HS := Lib.hid hs
  obtain ⟨A, c, rfl, -⟩ := hs
  go_wp2_with (fail)
  refine (get_any _ [7] 0 _ HS.out).mono ?_
  rintro e w2 ⟨rfl, k2⟩
  rw [show gtv [7] 0 = 7 from by decide, show gte [7] 0 = 0 from by decide]
  go_wp2_with (fail)
  refine (get_any _ [7] 1 _ (HS.out.up k2)).mono ?_
  rintro e w3 ⟨rfl, k3⟩
  rw [show gtv [7] 1 = 0 from by decide, show gte [7] 1 = 5 from by decide]
  go_wp2
  go_ret
  exact ⟨rfl, (hu.trans k2).trans k3⟩
end Go.Proofs.Ytpbbbgcafphplaa
