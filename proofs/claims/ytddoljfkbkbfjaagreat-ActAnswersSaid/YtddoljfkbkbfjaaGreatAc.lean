/- New memory, right memory, what is handed in, opened; plain facts of memory. -/
import Derived.Test.YtddoljfkbkbfjaaGreatAb
import Derived.Carry
import Derived.WideKeyArgs
import Derived.Deep.Slices
import Derived.ChangeArms
import Derived.Lib.SmallJoins
/-! Of stage 3 -/
namespace Go.Proofs.YtddoljfkbkbfjaaGreat
open Go.ChangeShapes Go.WideShapes Go.ChangeAt Go.RowKit
set_option linter.unusedVariables false
set_option linter.unusedSimpArgs false

def bnd (k : Int) : Int := if k < 16 then 1 else if 4096 < k then 3 else 0
theorem new_end (n : Nat) (h16 : 16 ≤ n) (hn : n ≤ 4096) (w : World) (fn : Func) (a : Act) (P Q : Addr) (cs : Array Value)
    (hr : (results fn a.tmps).run Tryz.prog (((w.alloc (.cells cs 25)).alloc (.cells (wds (zers n)).toArray 54)).alloc (.cells (wds (zers n)).toArray 54)).drew = .ok (.tuple #[.agg #[.int .i64 n, .slice (some P) n n, .slice (some Q) n n], .int .i64 0]) (((w.alloc (.cells cs 25)).alloc (.cells (wds (zers n)).toArray 54)).alloc (.cells (wds (zers n)).toArray 54)).drew)
    (hd : a.defers = []) (hPQ : (P = ⟨w.heap.size + 1, 0, none⟩ ∧ Q = ⟨w.heap.size + 1 + 1, 0, none⟩) ∨ (P = ⟨w.heap.size + 1 + 1, 0, none⟩ ∧ Q = ⟨w.heap.size + 1, 0, none⟩)) :
    bodyPost Tryz.prog fn (Gives1 w ⟨n, zers n, zers n⟩ (.int .i64 0)) .ret a (((w.alloc (.cells cs 25)).alloc (.cells (wds (zers n)).toArray 54)).alloc (.cells (wds (zers n)).toArray 54)).drew := by
  refine bodyPost_ret hr hd ?_
  have hm : n ≤ maxLen := by unfold maxLen; omega
  have R1 := (new_row' (w.alloc (.cells cs 25)) (zers n) 54 (w.heap.size + 1) (by simp)).up (((Up.refl _).alloc (.cells (wds (zers n)).toArray 54)).drew)
  have R2 := new_row ((w.alloc (.cells cs 25)).alloc (.cells (wds (zers n)).toArray 54)) (zers n) 54 (w.heap.size + 1 + 1) (by simp)
  have U := ((((Up.refl w).alloc (.cells cs 25)).alloc (.cells (wds (zers n)).toArray 54)).alloc (.cells (wds (zers n)).toArray 54)).drew
  rcases hPQ with ⟨rfl, rfl⟩ | ⟨rfl, rfl⟩
  · exact ⟨_, _, n, n, rfl, ⟨⟨h16, hn, len_zers n, len_zers n⟩, Nat.le_refl _, hm, Nat.le_refl _, hm, R1, R2⟩, U⟩
  · exact ⟨_, _, n, n, rfl, ⟨⟨h16, hn, len_zers n, len_zers n⟩, Nat.le_refl _, hm, Nat.le_refl _, hm, R2, R1⟩, U⟩

/-- Is it right? -/
def rt (N : Int) (n0 n1 : Nat) : Bool := decide (16 ≤ N ∧ N ≤ 4096 ∧ (n0 : Int) = N ∧ (n1 : Int) = N)

set_option maxHeartbeats 2000000 in
theorem rmright_any (N : Int) (A0 A1 : Option Addr) (n0 n1 c0 c1 : Nat) (w : World) :
    Calls Tryz.prog 27 #[.agg #[.int .i64 N, .slice A0 n0 c0, .slice A1 n1 c1]] w fun e w' => e = .returned (.bool (rt N n0 n1)) ∧ Up w w' := by
  by_cases h0 : 16 ≤ N
  · by_cases h1 : N ≤ 4096
    · by_cases h2 : (n0 : Int) = N
      · subst h2
        by_cases h3 : (n1 : Int) = n0
        · obtain rfl : n1 = n0 := by omega
          rw [show rt (n1 : Int) n1 n1 = true from decide_eq_true ⟨h0, h1, rfl, rfl⟩]
          clear h3
          go_enter Tryz.func27, Tryz.ntmps27
          go_wp2
          go_ret
          exact ⟨rfl, (Up.refl _).alloc _⟩
        · rw [show rt (n0 : Int) n0 n1 = false from decide_eq_false (fun q => h3 q.2.2.2)]
          have hb : (n1 == n0) = false := beq_eq_false_iff_ne.mpr (by omega)
          have hb2 : ((n1 : Int) == (n0 : Int)) = false := beq_eq_false_iff_ne.mpr h3
          clear h3
          go_enter Tryz.func27, Tryz.ntmps27
          go_wp2
          go_ret
          exact ⟨rfl, (Up.refl _).alloc _⟩
      · rw [show rt N n0 n1 = false from decide_eq_false (fun q => h2 q.2.2.1)]
        have hb : ((n0 : Int) == N) = false := beq_eq_false_iff_ne.mpr h2
        clear h2
        go_enter Tryz.func27, Tryz.ntmps27
        go_wp2
        go_ret
        exact ⟨rfl, (Up.refl _).alloc _⟩
    · rw [show rt N n0 n1 = false from decide_eq_false (fun q => h1 q.2.1)]
      have hb : decide (N ≤ 4096) = false := decide_eq_false h1
      clear h1
      go_enter Tryz.func27, Tryz.ntmps27
      go_wp2
      go_ret
      exact ⟨rfl, (Up.refl _).alloc _⟩
  · rw [show rt N n0 n1 = false from decide_eq_false (fun q => h0 q.1)]
    have hb : decide (16 ≤ N) = false := decide_eq_false h0
    clear h0
    go_enter Tryz.func27, Tryz.ntmps27
    go_wp2
    go_ret
    exact ⟨rfl, (Up.refl _).alloc _⟩


end Go.Proofs.YtddoljfkbkbfjaaGreat
/-! Of stage 5 -/
namespace Go.Proofs.YtddoljfkbkbfjaaGreat
open Go.Joins Go.ChangeShapes Go.WideShapes Go.ChangeAt Go.RowKit Go.Deep
set_option linter.unusedVariables false
set_option linter.unusedSimpArgs false

theorem laid : laidOutB Tryz.prog = true := by kernel_rfl
theorem cells_int : Tryz.prog.cellsOf 3 = 1 := by kernel_rfl
theorem cells_u64 : Tryz.prog.cellsOf 54 = 1 := by kernel_rfl
theorem cells_words : Tryz.prog.cellsOf 22 = 1 := by kernel_rfl
theorem cells_two : Tryz.prog.cellsOf 23 = 2 := by kernel_rfl
theorem cells_mem : Tryz.prog.cellsOf 25 = 3 := by kernel_rfl

/-- A slice that was handed in: its words. -/
def SlOk (w : World) (A : Option Addr) (n c : Nat) (xs : List Int) : Prop := Rd w A n xs ∧ n ≤ c ∧ c ≤ maxLen ∧ ∀ x ∈ xs, U64 x
theorem lt_of_cell {w : World} {a : Addr} {v : Value} (h : w.cell? a = some v) : a.block < w.heap.size := by
  rcases Nat.lt_or_ge a.block w.heap.size with hlt | hge
  · exact hlt
  · unfold World.cell? at h
    rw [Array.getElem?_eq_none hge] at h
    cases h

section
variable {H : Type} {enc : TypeId × Value → H} {w : World}
theorem words_open {fuel : Nat} {v : Value} {x : DataW H × List MemPlace} (h : DataW.trod enc Tryz.prog w 0 (fun _ => true) true fuel 22 [v] = some x) : ∃ A n c xs, v = .slice A n c ∧ SlOk w A n c xs := by
  rcases open_slice1 Tryz.underlying22 cells_u64 h with ⟨h0, _⟩ | ⟨a, len, cap, m, n, V, D, Pl, hcs, hb, hl, hm, hmm, _, hi⟩
  · simp only [List.cons.injEq, and_true] at h0
    exact ⟨none, 0, 0, [], h0, ⟨rfl, fun k => absurd k (by omega)⟩, Nat.le_refl _, Nat.zero_le _, fun x hx => by cases hx⟩
  · simp only [List.cons.injEq, and_true] at hcs
    simp only [if_true] at hmm
    subst hmm
    have hz : ∀ i, i < m → ∃ z : Int, w.cell? (a.add i) = some (.int .u64 z) ∧ U64 z := by
      intro i him
      obtain ⟨h1, h2⟩ := hi i him
      obtain ⟨z, e, _, hw⟩ := DataW.trod_int Tryz.underlying54 h2
      simp only [List.cons.injEq, and_true] at e
      exact ⟨z, by rw [h1, e], nn_of_wf hw, hi_of_wf hw⟩
    obtain ⟨Z, hZ⟩ := choose_lt (α := Int) (p := fun i z => w.cell? (a.add i) = some (.int .u64 z) ∧ U64 z) hz
    refine ⟨some a, len, m, (List.range len).map Z, hcs, ⟨by simp, fun hn => ⟨a, rfl, ?_, ?_⟩⟩, hl, hm, ?_⟩
    · have := lt_of_cell (hZ 0 (by omega)).1
      rwa [block_of_add] at this
    · intro j x hx
      simp only [List.getElem?_map, Option.map_eq_some_iff] at hx
      obtain ⟨i, hi', rfl⟩ := hx
      have hj : j < len := by
        rcases Nat.lt_or_ge j len with q | q
        · exact q
        · rw [List.getElem?_eq_none (by simpa using q)] at hi'; cases hi'
      rw [List.getElem?_range hj] at hi'
      simp only [Option.some.injEq] at hi'
      subst hi'
      exact (hZ j (by omega)).1
    · intro x hx
      simp only [List.mem_map, List.mem_range] at hx
      obtain ⟨i, hi', rfl⟩ := hx
      exact (hZ i (by omega)).2

theorem int_open {fuel : Nat} {v : Value} {x : DataW H × List MemPlace} (h : DataW.trod enc Tryz.prog w 0 (fun _ => true) true fuel 3 [v] = some x) : ∃ n : Int, v = .int .i64 n ∧ I64 n := by
  obtain ⟨n, e, _, hw⟩ := DataW.trod_int Tryz.underlying3 h
  simp only [List.cons.injEq, and_true] at e
  exact ⟨n, e, i64_of_wf hw⟩
theorem u64_open {fuel : Nat} {v : Value} {x : DataW H × List MemPlace} (h : DataW.trod enc Tryz.prog w 0 (fun _ => true) true fuel 54 [v] = some x) : ∃ n : Int, v = .int .u64 n ∧ U64 n := by
  obtain ⟨n, e, _, hw⟩ := DataW.trod_int Tryz.underlying54 h
  simp only [List.cons.injEq, and_true] at e
  exact ⟨n, e, nn_of_wf hw, hi_of_wf hw⟩

/-- Memory that was handed in. -/
theorem mem_open {fuel : Nat} {v0 v1 v2 : Value} {x : DataW H × List MemPlace} (h : DataW.trod enc Tryz.prog w 0 (fun _ => true) true fuel 25 [v0, v1, v2] = some x) :
    ∃ (N : Int) (A0 A1 : Option Addr) (n0 n1 c0 c1 : Nat) (xs ys : List Int), v0 = .int .i64 N ∧ v1 = .slice A0 n0 c0 ∧ v2 = .slice A1 n1 c1 ∧ I64 N ∧ SlOk w A0 n0 c0 xs ∧ SlOk w A1 n1 c1 ys := by
  obtain ⟨ys, n, _, _, _, hlen, hf⟩ := DataW.trod_struct Tryz.underlying25 h
  have f0 := hf 0 _ rfl
  have f1 := hf 1 _ rfl
  match ys, hlen with
  | [y0, y1], _ =>
    change DataW.trod enc Tryz.prog w 0 (fun _ => true) true n 3 (([v0, v1, v2].drop 0).take (Tryz.prog.cellsOf 3)) = some y0 at f0
    change DataW.trod enc Tryz.prog w 0 (fun _ => true) true n 23 (([v0, v1, v2].drop 1).take (Tryz.prog.cellsOf 23)) = some y1 at f1
    rw [cells_int] at f0
    rw [cells_two] at f1
    have g0 : DataW.trod enc Tryz.prog w 0 (fun _ => true) true n 3 [v0] = some y0 := f0
    have g1 : DataW.trod enc Tryz.prog w 0 (fun _ => true) true n 23 [v1, v2] = some y1 := f1
    obtain ⟨N, rfl, hN⟩ := int_open g0
    obtain ⟨zs, m, _, _, _, hl2, ha⟩ := DataW.trod_array Tryz.underlying23 g1
    have a0 := ha 0 (by omega)
    have a1 := ha 1 (by omega)
    match zs, hl2 with
    | [z0, z1], _ =>
      simp only [cells_words] at a0 a1
      have b0 : DataW.trod enc Tryz.prog w 0 (fun _ => true) true m 22 [v1] = some z0 := a0
      have b1 : DataW.trod enc Tryz.prog w 0 (fun _ => true) true m 22 [v2] = some z1 := a1
      obtain ⟨A0, n0, c0, xs, rfl, h0⟩ := words_open b0
      obtain ⟨A1, n1, c1, ys, rfl, h1⟩ := words_open b1
      exact ⟨N, A0, A1, n0, n1, c0, c1, xs, ys, rfl, rfl, rfl, hN, h0, h1⟩
end

/-- Memory that was handed in lies there; if it is right, it sits there. -/
theorem lies_of {w : World} {N : Int} {A0 A1 : Option Addr} {n0 n1 c0 c1 : Nat} {xs ys : List Int} (h0 : SlOk w A0 n0 c0 xs) (h1 : SlOk w A1 n1 c1 ys) : Lies w ⟨N, xs, ys⟩ A0 A1 n0 n1 c0 c1 :=
  ⟨h0.1, h1.1, Nat.le_trans h0.2.1 h0.2.2.1, Nat.le_trans h1.2.1 h1.2.2.1⟩
theorem sits_of {w : World} {n : Nat} {A0 A1 : Option Addr} {c0 c1 : Nat} {xs ys : List Int} (h0 : SlOk w A0 n c0 xs) (h1 : SlOk w A1 n c1 ys) (h16 : 16 ≤ n) (hn : n ≤ 4096) :
    ∃ p q, A0 = some p ∧ A1 = some q ∧ Sits w ⟨n, xs, ys⟩ p q c0 c1 := by
  obtain ⟨p, rfl, hp⟩ := h0.1.2 (by omega)
  obtain ⟨q, rfl, hq⟩ := h1.1.2 (by omega)
  exact ⟨p, q, rfl, rfl, ⟨⟨h16, hn, h0.1.1, h1.1.1⟩, h0.2.1, h0.2.2.1, h1.2.1, h1.2.2.1, hp, hq⟩⟩

/-- The last step, in general: old memory is as it was (marks of new blocks may be others). -/
theorem post_below {H : Type} {enc : TypeId × Value → H} {P : Program} {f : Func} {s : ChangeSpec} {apart fresh handsOn again : Bool} {W W' : World} {args : Array Value} {v : Value} {ds gs : List (DataW H)} {before pa pv : List MemPlace}
    (hW : DataW.Whole enc P f.params.toList s.vars apart W args.toList ds gs before)
    (hres : ∀ (b : Nat) (sp : Nat → Bool) (hd : Bool), DataW.TrodAll enc P W' b sp hd f.resultTypes.toList (v.resultList f.resultTypes.size) (s.fn H (ds ++ gs)).results [])
    (hargs : ∀ sp : Nat → Bool, (∀ p ∈ before, sp p.block = true) → DataW.TrodAll enc P W' 0 sp true f.params.toList args.toList (s.fn H (ds ++ gs)).args pa)
    (hvars : ∀ sp : Nat → Bool, (∀ p ∈ before, sp p.block = true) → DataW.TrodVars enc P W' sp s.vars (s.fn H (ds ++ gs)).vars pv)
    (hps : before = pa ++ pv) (hb : Up W W')
    (hok : ∀ (j : Nat) (t : TypeId) (r : Value), f.resultTypes[j]? = some t → (v.resultList f.resultTypes.size)[j]? = some r → Value.okWide P W' .any 0 t r) :
    s.post enc P f apart fresh handsOn again W args v W' := by
  have hlt : ∀ p ∈ before, p.block < W.heap.size := fun p hp => hW.lt p hp
  have hold : ∀ p ∈ before, (fun b => decide (b < W.heap.size)) p.block = true := fun p hp => by simpa using hlt p hp
  refine ⟨ds, gs, before, [], pa, pv, hW, hres _ _ _, hargs _ hold, hvars _ hold, World.keptBut_mono (fun p hp => ⟨hp, ?_⟩) (Below.frame hb (· ∈ before)), fun _ => ?_⟩
  · rw [hps, List.mem_append] at hp
    exact .inr hp
  obtain ⟨_, _, _, _, _, hz, hn⟩ := hW
  refine ⟨hok, _, _, ([] ++ pa) ++ pv, ⟨[] ++ pa, pv, trodAll_append (hargs _ (fun _ _ => rfl)) (hres _ _ _), hvars _ (fun _ _ => rfl), rfl, ?_, ?_⟩, ?_⟩
  · intro b off hp
    have hin : MemPlace.cell b off ∈ before := by rw [hps]; simpa using hp
    rw [Below.frozen hb (hlt _ hin)]
    exact hz b off hin
  · intro ha
    have := hn ha
    rw [hps] at this
    simpa using this
  · intro p hp _
    rw [hps]
    simpa using hp

/-- An argument reads behind the call as it read before. -/
theorem trod_keeps {H : Type} {enc : TypeId × Value → H} {t : TypeId} {W W' : World} {v : Value} {d : DataW H} {ps : List MemPlace} {sp : Nat → Bool} (hr : Tryz.prog.readableRec t = true) (hrow : t < Tryz.prog.types.size)
    (h : DataW.Trod enc Tryz.prog W 0 (fun _ => true) true t v d ps) (hb : Up W W') (hlt : ∀ x ∈ ps, x.block < W.heap.size) (hsp : ∀ x ∈ ps, sp x.block = true) : DataW.Trod enc Tryz.prog W' 0 sp true t v d ps :=
  WideElems.Trod_stays laid hr hrow h (fun x hx => Below.same hb (hlt x hx)) hsp

end Go.Proofs.YtddoljfkbkbfjaaGreat
/-! Of stage 5 -/
namespace Go.Proofs.YtddoljfkbkbfjaaGreat
open Go.ChangeShapes Go.WideShapes Go.ChangeAt Go.RowKit
set_option linter.unusedVariables false
set_option linter.unusedSimpArgs false

theorem whs_01 (a : Int) : whs a = 0 ∨ whs a = 1 := by unfold whs; split <;> simp
theorem whp_nn (a : Int) : 0 ≤ whp a := by unfold whp; split <;> omega
/-- An address is that of its place. -/
theorem adr_of {a : Int} (h : whb a = true) : a = (whs a + 1) * 4294967296 + whp a := by
  have h := of_decide_eq_true h
  unfold whs whp
  rw [if_pos h]
  rcases h with h | h
  · rw [if_neg (by omega)]; omega
  · rw [if_pos h]; omega
theorem adr_same {a b : Int} (ha : whb a = true) (hb : whb b = true) (hs : whs a = whs b) (hp : whp a = whp b) : a = b := by
  rw [adr_of ha, adr_of hb, hs, hp]
theorem Me.sp_put_ne (m : Me) {s t : Int} (hs : s = 0 ∨ s = 1) (ht : t = 0 ∨ t = 1) (h : s ≠ t) (l : List Int) : (m.put s l).sp t = m.sp t := by
  rcases hs with rfl | rfl <;> rcases ht with rfl | rfl <;> first | rfl | exact absurd rfl h
theorem Me.put_comm (m : Me) {s t : Int} (hs : s = 0 ∨ s = 1) (ht : t = 0 ∨ t = 1) (h : s ≠ t) (l l' : List Int) : (m.put s l).put t l' = (m.put t l').put s l := by
  rcases hs with rfl | rfl <;> rcases ht with rfl | rfl <;> first | rfl | exact absurd rfl h
theorem there_n {m m' : Me} (h : m'.n = m.n) (a : Int) : m'.there a ↔ m.there a := by unfold Me.there; rw [h]
theorem lde_n {m m' : Me} (h : m'.n = m.n) (a : Int) : m'.lde a = m.lde a := by
  unfold Me.lde
  by_cases k : m.there a
  · rw [if_pos k, if_pos ((there_n h a).2 k)]
  · rw [if_neg k, if_neg (fun q => k ((there_n h a).1 q))]
theorem Me.st_n (m : Me) (a v : Int) : (m.st a v).n = m.n := by
  unfold Me.st
  split
  · exact Me.put_n _ _ _
  · rfl
theorem Me.sw_n (m : Me) (a o v : Int) : (m.sw a o v).n = m.n := by
  unfold Me.sw
  split
  · exact Me.st_n _ _ _
  · rfl

/-- What was stored is loaded. -/
theorem st_ld {m : Me} (hm : m.ok) {a v : Int} (h : m.there a) : (m.st a v).ld a = v := by
  rw [show (m.st a v).ld a = _ from if_pos ((there_n (Me.st_n m a v) a).2 h), show m.st a v = _ from if_pos h, Me.sp_put m (whs_01 a)]
  have hp := whp_nn a
  have hl : (whp a).toNat < (m.sp (whs a)).length := by rw [Me.len_sp hm]; have := h.2; omega
  simp [List.getD, hl]
/-- What is loaded elsewhere is as it was. -/
theorem st_other {m : Me} {a b v : Int} (hne : a ≠ b) : (m.st a v).ld b = m.ld b := by
  by_cases ha : m.there a
  · by_cases hb : m.there b
    · rw [show (m.st a v).ld b = _ from if_pos ((there_n (Me.st_n m a v) b).2 hb), show m.ld b = _ from if_pos hb, show m.st a v = _ from if_pos ha]
      by_cases hs : whs a = whs b
      · rw [← hs, Me.sp_put m (whs_01 a)]
        have hp : (whp a).toNat ≠ (whp b).toNat := fun e => hne (adr_same ha.1 hb.1 hs (by have := whp_nn a; have := whp_nn b; omega))
        simp [List.getD, List.getElem?_set, hp]
      · rw [Me.sp_put_ne m (whs_01 a) (whs_01 b) hs]
    · rw [show (m.st a v).ld b = 0 from if_neg (fun q => hb ((there_n (Me.st_n m a v) b).1 q)), show m.ld b = 0 from if_neg hb]
  · rw [show m.st a v = m from if_neg ha]
/-- Two words that are stored at two addresses hang on no order. -/
theorem st_comm {m : Me} {a b v x : Int} (hne : a ≠ b) : (m.st a v).st b x = (m.st b x).st a v := by
  by_cases ha : m.there a
  · by_cases hb : m.there b
    · rw [show (m.st a v).st b x = _ from if_pos ((there_n (Me.st_n m a v) b).2 hb), show (m.st b x).st a v = _ from if_pos ((there_n (Me.st_n m b x) a).2 ha), show m.st a v = _ from if_pos ha, show m.st b x = _ from if_pos hb]
      by_cases hs : whs a = whs b
      · rw [← hs, Me.sp_put m (whs_01 a), Me.sp_put m (whs_01 a), Me.put_put m (whs_01 a), Me.put_put m (whs_01 a)]
        have hp : (whp a).toNat ≠ (whp b).toNat := fun e => hne (adr_same ha.1 hb.1 hs (by have := whp_nn a; have := whp_nn b; omega))
        rw [List.set_comm _ _ hp]
      · rw [Me.sp_put_ne m (whs_01 a) (whs_01 b) hs, Me.sp_put_ne m (whs_01 b) (whs_01 a) (Ne.symm hs), Me.put_comm m (whs_01 a) (whs_01 b) hs]
    · rw [show m.st b x = m from if_neg hb, show (m.st a v).st b x = m.st a v from if_neg (fun q => hb ((there_n (Me.st_n m a v) b).1 q))]
  · rw [show m.st a v = m from if_neg ha, show (m.st b x).st a v = m.st b x from if_neg (fun q => ha ((there_n (Me.st_n m b x) a).1 q))]

/-- Two that are the same memory are the same. -/
theorem rsame_self (m : Me) (P Q P' Q' : Addr) (c d c' d' : Nat) (w : World) (h : Sits w m P Q c d) (h' : Sits w m P' Q' c' d') :
    Calls Tryz.prog 21 #[.agg #[.int .i64 m.n, .slice (some P) m.n c, .slice (some Q) m.n d], .agg #[.int .i64 m.n, .slice (some P') m.n c', .slice (some Q') m.n d']] w fun e w' => e = .returned (.bool true) ∧ Up w w' := by
  have := rsame_any m.ma m.ma (some P) (some Q) (some P') (some Q') m.n m.n m.n m.n c d c' d' w h.lies h'.lies
  rw [Ma.same_self] at this
  exact this
theorem rright_me (m : Me) (P Q : Addr) (c d : Nat) (w : World) (h : m.ok) :
    Calls Tryz.prog 27 #[.agg #[.int .i64 m.n, .slice (some P) m.n c, .slice (some Q) m.n d]] w fun e w' => e = .returned (.bool true) ∧ Up w w' := by
  have := rmright_any m.n (some P) (some Q) m.n m.n c d w
  rw [show rt m.n m.n m.n = true from by unfold rt; exact decide_eq_true ⟨by have := h.1; omega, by have := h.2.1; omega, rfl, rfl⟩] at this
  exact this

end Go.Proofs.YtddoljfkbkbfjaaGreat
