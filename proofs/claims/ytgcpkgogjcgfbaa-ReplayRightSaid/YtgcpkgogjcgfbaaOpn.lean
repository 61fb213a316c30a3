/- What a statement is handed: slices of words and memory, opened; and the last step of a statement whose call only makes memory of its own. -/
import Derived.Test.YtgcpkgogjcgfbaaNw
import Derived.Carry
import Derived.WideKeyArgs
import Derived.Deep.Slices
import Derived.ChangeArms
import Derived.Lib.SmallJoins
namespace Go.Proofs.Ytgcpkgogjcgfbaa
open Go.Joins Go.ChangeShapes Go.WideShapes Go.ChangeAt Go.RowKit Go.Deep
set_option linter.unusedVariables false
set_option linter.unusedSimpArgs false

theorem laid : laidOutB Try.prog = true := by kernel_rfl
theorem cells_int : Try.prog.cellsOf 3 = 1 := by kernel_rfl
theorem cells_u64 : Try.prog.cellsOf 44 = 1 := by kernel_rfl
theorem cells_words : Try.prog.cellsOf 22 = 1 := by kernel_rfl
theorem cells_two : Try.prog.cellsOf 23 = 2 := by kernel_rfl
theorem cells_mem : Try.prog.cellsOf 25 = 3 := by kernel_rfl

/-- A slice that was handed in: its words. -/
def SlOk (w : World) (A : Option Addr) (n c : Nat) (xs : List Int) : Prop := Rd w A n xs ∧ n ≤ c ∧ c ≤ maxLen ∧ ∀ x ∈ xs, U64 x
theorem lt_of_cell {w : World} {a : Addr} {v : Value} (h : w.cell? a = some v) : a.block < w.heap.size := by
  rcases Nat.lt_or_ge a.block w.heap.size with hlt | hge
  · exact hlt
  · unfold World.cell? at h
    rw [Array.getElem?_eq_none hge] at h
    cases h

section
variable {H : Type} {enc : TypeId × Value → H} {w : World}
theorem words_open {fuel : Nat} {v : Value} {x : DataW H × List MemPlace} (h : DataW.trod enc Try.prog w 0 (fun _ => true) true fuel 22 [v] = some x) : ∃ A n c xs, v = .slice A n c ∧ SlOk w A n c xs := by
  rcases open_slice1 Try.underlying22 cells_u64 h with ⟨h0, _⟩ | ⟨a, len, cap, m, n, V, D, Pl, hcs, hb, hl, hm, hmm, _, hi⟩
  · simp only [List.cons.injEq, and_true] at h0
    exact ⟨none, 0, 0, [], h0, ⟨rfl, fun k => absurd k (by omega)⟩, Nat.le_refl _, Nat.zero_le _, fun x hx => by cases hx⟩
  · simp only [List.cons.injEq, and_true] at hcs
    simp only [if_true] at hmm
    subst hmm
    have hz : ∀ i, i < m → ∃ z : Int, w.cell? (a.add i) = some (.int .u64 z) ∧ U64 z := by
      intro i him
      obtain ⟨h1, h2⟩ := hi i him
      obtain ⟨z, e, _, hw⟩ := DataW.trod_int Try.underlying44 h2
      simp only [List.cons.injEq, and_true] at e
      exact ⟨z, by rw [h1, e], nn_of_wf hw, hi_of_wf hw⟩
    obtain ⟨Z, hZ⟩ := choose_lt (α := Int) (p := fun i z => w.cell? (a.add i) = some (.int .u64 z) ∧ U64 z) hz
    refine ⟨some a, len, m, (List.range len).map Z, hcs, ⟨by simp, fun hn => ⟨a, rfl, ?_, ?_⟩⟩, hl, hm, ?_⟩
    · have := lt_of_cell (hZ 0 (by omega)).1
      rwa [block_of_add] at this
    · intro j x hx
      simp only [List.getElem?_map, Option.map_eq_some_iff] at hx
      obtain ⟨i, hi', rfl⟩ := hx
      have hj : j < len := by
        rcases Nat.lt_or_ge j len with q | q
        · exact q
        · rw [List.getElem?_eq_none (by simpa using q)] at hi'; cases hi'
      rw [List.getElem?_range hj] at hi'
      simp only [Option.some.injEq] at hi'
      subst hi'
      exact (hZ j (by omega)).1
    · intro x hx
      simp only [List.mem_map, List.mem_range] at hx
      obtain ⟨i, hi', rfl⟩ := hx
      exact (hZ i (by omega)).2

theorem int_open {fuel : Nat} {v : Value} {x : DataW H × List MemPlace} (h : DataW.trod enc Try.prog w 0 (fun _ => true) true fuel 3 [v] = some x) : ∃ n : Int, v = .int .i64 n ∧ I64 n := by
  obtain ⟨n, e, _, hw⟩ := DataW.trod_int Try.underlying3 h
  simp only [List.cons.injEq, and_true] at e
  exact ⟨n, e, i64_of_wf hw⟩
theorem u64_open {fuel : Nat} {v : Value} {x : DataW H × List MemPlace} (h : DataW.trod enc Try.prog w 0 (fun _ => true) true fuel 44 [v] = some x) : ∃ n : Int, v = .int .u64 n ∧ U64 n := by
  obtain ⟨n, e, _, hw⟩ := DataW.trod_int Try.underlying44 h
  simp only [List.cons.injEq, and_true] at e
  exact ⟨n, e, nn_of_wf hw, hi_of_wf hw⟩

/-- Memory that was handed in. -/
theorem mem_open {fuel : Nat} {v0 v1 v2 : Value} {x : DataW H × List MemPlace} (h : DataW.trod enc Try.prog w 0 (fun _ => true) true fuel 25 [v0, v1, v2] = some x) :
    ∃ (N : Int) (A0 A1 : Option Addr) (n0 n1 c0 c1 : Nat) (xs ys : List Int), v0 = .int .i64 N ∧ v1 = .slice A0 n0 c0 ∧ v2 = .slice A1 n1 c1 ∧ I64 N ∧ SlOk w A0 n0 c0 xs ∧ SlOk w A1 n1 c1 ys := by
  obtain ⟨ys, n, _, _, _, hlen, hf⟩ := DataW.trod_struct Try.underlying25 h
  have f0 := hf 0 _ rfl
  have f1 := hf 1 _ rfl
  match ys, hlen with
  | [y0, y1], _ =>
    change DataW.trod enc Try.prog w 0 (fun _ => true) true n 3 (([v0, v1, v2].drop 0).take (Try.prog.cellsOf 3)) = some y0 at f0
    change DataW.trod enc Try.prog w 0 (fun _ => true) true n 23 (([v0, v1, v2].drop 1).take (Try.prog.cellsOf 23)) = some y1 at f1
    rw [cells_int] at f0
    rw [cells_two] at f1
    have g0 : DataW.trod enc Try.prog w 0 (fun _ => true) true n 3 [v0] = some y0 := f0
    have g1 : DataW.trod enc Try.prog w 0 (fun _ => true) true n 23 [v1, v2] = some y1 := f1
    obtain ⟨N, rfl, hN⟩ := int_open g0
    obtain ⟨zs, m, _, _, _, hl2, ha⟩ := DataW.trod_array Try.underlying23 g1
    have a0 := ha 0 (by omega)
    have a1 := ha 1 (by omega)
    match zs, hl2 with
    | [z0, z1], _ =>
      simp only [cells_words] at a0 a1
      have b0 : DataW.trod enc Try.prog w 0 (fun _ => true) true m 22 [v1] = some z0 := a0
      have b1 : DataW.trod enc Try.prog w 0 (fun _ => true) true m 22 [v2] = some z1 := a1
      obtain ⟨A0, n0, c0, xs, rfl, h0⟩ := words_open b0
      obtain ⟨A1, n1, c1, ys, rfl, h1⟩ := words_open b1
      exact ⟨N, A0, A1, n0, n1, c0, c1, xs, ys, rfl, rfl, rfl, hN, h0, h1⟩
end

/-- Memory that was handed in lies there; if it is right, it sits there. -/
theorem lies_of {w : World} {N : Int} {A0 A1 : Option Addr} {n0 n1 c0 c1 : Nat} {xs ys : List Int} (h0 : SlOk w A0 n0 c0 xs) (h1 : SlOk w A1 n1 c1 ys) : Lies w ⟨N, xs, ys⟩ A0 A1 n0 n1 c0 c1 :=
  ⟨h0.1, h1.1, Nat.le_trans h0.2.1 h0.2.2.1, Nat.le_trans h1.2.1 h1.2.2.1⟩
theorem sits_of {w : World} {n : Nat} {A0 A1 : Option Addr} {c0 c1 : Nat} {xs ys : List Int} (h0 : SlOk w A0 n c0 xs) (h1 : SlOk w A1 n c1 ys) (h16 : 16 ≤ n) (hn : n ≤ 4096) :
    ∃ p q, A0 = some p ∧ A1 = some q ∧ Sits w ⟨n, xs, ys⟩ p q c0 c1 := by
  obtain ⟨p, rfl, hp⟩ := h0.1.2 (by omega)
  obtain ⟨q, rfl, hq⟩ := h1.1.2 (by omega)
  exact ⟨p, q, rfl, rfl, ⟨⟨h16, hn, h0.1.1, h1.1.1⟩, h0.2.1, h0.2.2.1, h1.2.1, h1.2.2.1, hp, hq⟩⟩

/-- The last step, in general: old memory is as it was (marks of new blocks may be others). -/
theorem post_below {H : Type} {enc : TypeId × Value → H} {P : Program} {f : Func} {s : ChangeSpec} {apart fresh handsOn again : Bool} {W W' : World} {args : Array Value} {v : Value} {ds gs : List (DataW H)} {before pa pv : List MemPlace}
    (hW : DataW.Whole enc P f.params.toList s.vars apart W args.toList ds gs before)
    (hres : ∀ (b : Nat) (sp : Nat → Bool) (hd : Bool), DataW.TrodAll enc P W' b sp hd f.resultTypes.toList (v.resultList f.resultTypes.size) (s.fn H (ds ++ gs)).results [])
    (hargs : ∀ sp : Nat → Bool, (∀ p ∈ before, sp p.block = true) → DataW.TrodAll enc P W' 0 sp true f.params.toList args.toList (s.fn H (ds ++ gs)).args pa)
    (hvars : ∀ sp : Nat → Bool, (∀ p ∈ before, sp p.block = true) → DataW.TrodVars enc P W' sp s.vars (s.fn H (ds ++ gs)).vars pv)
    (hps : before = pa ++ pv) (hb : Up W W')
    (hok : ∀ (j : Nat) (t : TypeId) (r : Value), f.resultTypes[j]? = some t → (v.resultList f.resultTypes.size)[j]? = some r → Value.okWide P W' .any 0 t r) :
    s.post enc P f apart fresh handsOn again W args v W' := by
  have hlt : ∀ p ∈ before, p.block < W.heap.size := fun p hp => hW.lt p hp
  have hold : ∀ p ∈ before, (fun b => decide (b < W.heap.size)) p.block = true := fun p hp => by simpa using hlt p hp
  refine ⟨ds, gs, before, [], pa, pv, hW, hres _ _ _, hargs _ hold, hvars _ hold, World.keptBut_mono (fun p hp => ⟨hp, ?_⟩) (Below.frame hb (· ∈ before)), fun _ => ?_⟩
  · rw [hps, List.mem_append] at hp
    exact .inr hp
  obtain ⟨_, _, _, _, _, hz, hn⟩ := hW
  refine ⟨hok, _, _, ([] ++ pa) ++ pv, ⟨[] ++ pa, pv, trodAll_append (hargs _ (fun _ _ => rfl)) (hres _ _ _), hvars _ (fun _ _ => rfl), rfl, ?_, ?_⟩, ?_⟩
  · intro b off hp
    have hin : MemPlace.cell b off ∈ before := by rw [hps]; simpa using hp
    rw [Below.frozen hb (hlt _ hin)]
    exact hz b off hin
  · intro ha
    have := hn ha
    rw [hps] at this
    simpa using this
  · intro p hp _
    rw [hps]
    simpa using hp

/-- An argument reads behind the call as it read before. -/
theorem trod_keeps {H : Type} {enc : TypeId × Value → H} {t : TypeId} {W W' : World} {v : Value} {d : DataW H} {ps : List MemPlace} {sp : Nat → Bool} (hr : Try.prog.readableRec t = true) (hrow : t < Try.prog.types.size)
    (h : DataW.Trod enc Try.prog W 0 (fun _ => true) true t v d ps) (hb : Up W W') (hlt : ∀ x ∈ ps, x.block < W.heap.size) (hsp : ∀ x ∈ ps, sp x.block = true) : DataW.Trod enc Try.prog W' 0 sp true t v d ps :=
  WideElems.Trod_stays laid hr hrow h (fun x hx => Below.same hb (hlt x hx)) hsp
end Go.Proofs.Ytgcpkgogjcgfbaa
