/- One entry more (package log: Add; the document's Add): contracts. -/
import Derived.Test.YtgofejhjnbnecaaEn3
namespace Go.Proofs.Ytgofejhjnbnecaa
open Go.Joins Go.ChangeShapes Go.WideShapes Go.ChangeAt Go.RowKit Go.Deep Go.Shelf Go.Maps
set_option linter.unusedVariables false
set_option linter.unusedSimpArgs false

/-- What is added, where there is room. -/
def ads (xs : List Ent) (x : Ent) (most : Int) : List Ent := if (xs.length : Int) < most ∧ xs.length < 64 then xs ++ [x] else xs
def ade (xs : List Ent) (most : Int) : Int := if (xs.length : Int) < most ∧ xs.length < 64 then 0 else 4
/-- A row and an error come. -/
def RePost (xs : List Ent) (er : Int) (w : World) (e : Ending) (w' : World) : Prop := ∃ v, e = .returned (.tuple #[v, .int .i64 er]) ∧ Sl w' v xs ∧ Up w w'
theorem run_cut3 (A : Option Addr) (n c : Nat) (hc : n ≤ c) (hm : c ≤ maxLen) (w : World) :
    (Instr.sliceAt 22 (.slice A n c) none (some (.int .i64 n)) (some (.int .i64 n))).run Try.prog w = .ok (.slice A n n) w ∧ (Instr.slice 22 (.slice A n c) none (some (.int .i64 n)) (some (.int .i64 n))).run Try.prog w = .ok (.slice A n n) w := by
  obtain ⟨i0, hi0, hz0, hz1, hz2⟩ := info3
  have hel : Try.prog.elem 22 = 25 := by kernel_rfl
  have hu : Try.prog.underlying 22 = some (.slice (Try.prog.elem 22)) := by rw [hel]; exact Try.underlying22
  rw [run_sliceAt_slice (h := hu), and_self, run_slice_hm (ht := hu) (h0 := by omega) (h2 := by omega) (h3 := by omega), hel]
  cases A
  · simp [sizeOf, typeInfo, hi0, hz1, sliced]
  · rename_i p
    have e0 : p.add 0 = p := Addr.add_zero' p
    simp [sizeOf, typeInfo, hi0, hz1, sliced, e0]
theorem add_full (A : Option Addr) (n c : Nat) (xs : List Ent) (a b most : Int) (w : World) (hx : Sl w (.slice A n c) xs) (h : most ≤ n ∨ 64 ≤ n) : Calls Try.prog 11 #[.slice A n c, .agg #[.int .u64 a, .int .i64 b], .int .i64 most] w (RePost xs 4 w) := by
  by_cases h1 : most ≤ n
  · have hd : decide (most ≤ (n : Int)) = true := decide_eq_true h1
    go_enter Try.func11, Try.ntmps11
    go_wp2
    go_ret2
    exact ⟨_, rfl, hx.up ((Up.refl _).alloc _), (Up.refl _).alloc _⟩
  · have hd : decide (most ≤ (n : Int)) = false := decide_eq_false h1
    have hd2 : decide ((64 : Int) ≤ n) = true := decide_eq_true (by omega)
    clear h h1
    go_enter Try.func11, Try.ntmps11
    go_wp2
    go_ret2
    exact ⟨_, rfl, hx.up ((Up.refl _).alloc _), (Up.refl _).alloc _⟩
set_option maxHeartbeats 1000000 in
theorem add_ok (A : Option Addr) (n c : Nat) (xs : List Ent) (a b most : Int) (w : World) (hx : Sl w (.slice A n c) xs) (h1 : (n : Int) < most) (h2 : n < 64) : Calls Try.prog 11 #[.slice A n c, .agg #[.int .u64 a, .int .i64 b], .int .i64 most] w (RePost (xs ++ [(a, b)]) 0 w) := by
  have hd : decide (most ≤ (n : Int)) = false := decide_eq_false (by omega)
  have hd2 : decide ((64 : Int) ≤ n) = false := decide_eq_false (by omega)
  obtain ⟨A', c', e, hc, hm, -, hr⟩ := hx
  cases e
  generalize hn : xs.length = n at *
  have hcut := fun w' => run_cut3 A n c hc hm w'
  obtain ⟨hcut1, hcut2⟩ : (∀ w', _) ∧ (∀ w', _) := ⟨fun w' => (hcut w').1, fun w' => (hcut w').2⟩
  have HR := Lib.hid hr
  unfold maxLen at hm
  clear hcut hn hr
  go_enter Try.func11, Try.ntmps11
  go_wp2_with (fail)
  obtain ⟨W0, hW0⟩ : ∃ W : World, W = w.alloc (.cells #[.int .u64 a, .int .i64 b] 25) := ⟨_, rfl⟩
  have D0 : Blk W0 w.heap.size 25 #[.int .u64 a, .int .i64 b] := by rw [hW0]; exact (Blk.new w _ _)
  have U0 : Up w W0 := by rw [hW0]; exact ((Up.refl w).alloc _)
  have D0c := D0.cell
  have U1 := (U0.alloc (.cells #[.int .u64 a, .int .i64 b] 25)).drew
  rw [← hW0]
  clear hW0
  go_region_held3 (fun w' => ∀ i, w'.cell? ⟨w.heap.size, i, none⟩ = (#[.int .u64 a, .int .i64 b] : Array Value)[i]?)
    (first
      | exact fun i => D0.drew.cell i
      | exact fun i => (D0.alloc _).drew.cell i
      | exact fun i => ((D0.alloc _).drew.up (by assumption)).cell i)
    ((refine step_more (by rfl) _ _ (by rfl) A xs n (by rfl) (HR.out.up U1) ⟨W0.heap.size, 0, none⟩ [(a, b)] 1 1 (by rfl) rfl (row_of_blk (xs := [(a, b)]) (Blk.new W0 _ _).drew) (by omega) (by omega) ?_; intro v' w2 hown k2; have U2 := U1.trans k2))
  all_goals
    go_wp2_with (fail)
    (try simp only [Exit.inBlock, Exit.then])
    go_ret2
    exact ⟨v', rfl, Sl.of_lo hown, U2⟩
theorem add_any (v : Value) (xs : List Ent) (x : Ent) (most : Int) (w : World) (hx : Sl w v xs) : Calls Try.prog 11 #[v, ev x, .int .i64 most] w (RePost (ads xs x most) (ade xs most) w) := by
  have hx0 := hx
  obtain ⟨A, c, rfl, -⟩ := hx
  unfold ads ade
  by_cases h : (xs.length : Int) < most ∧ xs.length < 64
  · rw [if_pos h, if_pos h]
    exact add_ok A _ c xs x.1 x.2 most w hx0 h.1 h.2
  · rw [if_neg h, if_neg h]
    exact add_full A _ c xs x.1 x.2 most w hx0 (by omega)
theorem radd_full (A : Option Addr) (n c : Nat) (xs : List Ent) (a b most : Int) (w : World) (hx : Sl w (.slice A n c) xs) (h : most ≤ n ∨ 64 ≤ n) : Calls Try.prog 12 #[.slice A n c, .agg #[.int .u64 a, .int .i64 b], .int .i64 most] w (RePost xs 4 w) := by
  by_cases h1 : most ≤ n
  · have hd : decide (most ≤ (n : Int)) = true := decide_eq_true h1
    go_enter Try.func12, Try.ntmps12
    go_wp2
    go_ret2
    exact ⟨_, rfl, hx.up ((Up.refl _).alloc _), (Up.refl _).alloc _⟩
  · have hd : decide (most ≤ (n : Int)) = false := decide_eq_false h1
    have hd2 : decide ((64 : Int) ≤ n) = true := decide_eq_true (by omega)
    clear h h1
    go_enter Try.func12, Try.ntmps12
    go_wp2
    go_ret2
    exact ⟨_, rfl, hx.up ((Up.refl _).alloc _), (Up.refl _).alloc _⟩
/-- A world that has grown, by the ways in which a walk spells it. -/
theorem blk_alloc2 {w : World} {t : TypeId} {cs ds : Array Value} {u : TypeId} : Blk ((w.alloc (.cells cs t)).alloc (.cells ds u)).drew (w.heap.size + 1) u ds := (Blk.new' (w.alloc (.cells cs t)) (by simp) u ds).drew
set_option maxHeartbeats 2000000 in
theorem radd_nil (A : Option Addr) (c : Nat) (a b most : Int) (w : World) (hx : Sl w (.slice A 0 c) []) (h1 : (0 : Int) < most) : Calls Try.prog 12 #[.slice A 0 c, .agg #[.int .u64 a, .int .i64 b], .int .i64 most] w (RePost [(a, b)] 0 w) := by
  have hd : decide (most ≤ (0 : Int)) = false := decide_eq_false (by omega)
  clear hx h1
  go_enter Try.func12, Try.ntmps12
  go_wp2_with (fail)
  obtain ⟨W0, hW0⟩ : ∃ W : World, W = w.alloc (.cells #[.int .u64 a, .int .i64 b] 25) := ⟨_, rfl⟩
  have D0 : Blk W0 w.heap.size 25 #[.int .u64 a, .int .i64 b] := by rw [hW0]; exact (Blk.new w _ _)
  have U0 : Up w W0 := by rw [hW0]; exact ((Up.refl w).alloc _)
  have hB : w.heap.size < W0.heap.size := by rw [hW0]; simp
  rw [← hW0]
  clear hW0
  have hsz := U0.size
  go_region_held3 (fun w' => ∀ i, w'.cell? ⟨w.heap.size, i, none⟩ = (#[.int .u64 a, .int .i64 b] : Array Value)[i]?)
    (first
      | exact fun i => D0.drew.cell i
      | exact fun i => (D0.alloc _).drew.cell i
      | exact fun i => (D0.drew.alloc _).cell i
      | exact fun i => ((D0.alloc _).drew.alloc _).cell i
      | exact fun i => ((D0.alloc _).alloc _).drew.cell i
      | exact fun i => (D0.up (by assumption)).cell i
      | (trace_state; fail))
    (first
      | (refine step_nothing (by rfl) _ _ (by rfl) (some ⟨W0.heap.size, 0, none⟩) A c (by rfl) (by rfl) ?_)
      | (refine step_nothing (by rfl) _ _ (by rfl) (some ⟨W0.heap.size + 1, 0, none⟩) A c (by rfl) (by rfl) ?_)
      | (refine step_own (by rfl) _ _ (by rfl) W0.heap.size (.slice (some ⟨W0.heap.size, 0, none⟩) 0 0) [] (by rfl) (lo_empty ((Blk.new W0 _ _).drew.alloc _) (by omega)) ⟨W0.heap.size + 1, 0, none⟩ [(a, b)] 1 1 (by rfl) rfl (row_of_blk (xs := [(a, b)]) (Blk.new' _ (by simp) _ _)) (by omega) (by simp) (by simp <;> omega) ?_; intro g2 cap2 wb hown hg; have UB : Up W0 wb := Up.own (((Up.refl W0).alloc _).drew.alloc _) (lo_empty ((Blk.new W0 25 #[]).drew.alloc _) (by omega)) hg)
      | (refine step_own (by rfl) _ _ (by rfl) W0.heap.size (.slice (some ⟨W0.heap.size, 0, none⟩) 0 0) [] (by rfl) (lo_empty ((Blk.new W0 _ _).alloc _).drew (by omega)) ⟨W0.heap.size + 1, 0, none⟩ [(a, b)] 1 1 (by rfl) rfl (row_of_blk (xs := [(a, b)]) blk_alloc2) (by omega) (by simp) (by simp <;> omega) ?_; intro g2 cap2 wb hown hg; have UB : Up W0 wb := Up.own (((Up.refl W0).alloc _).alloc _).drew (lo_empty ((Blk.new W0 25 #[]).alloc _).drew (by omega)) hg)
      | (refine step_own (by rfl) _ _ (by rfl) W0.heap.size (.slice (some ⟨W0.heap.size + 1, 0, none⟩) 0 0) [] (by rfl) (lo_empty blk_alloc2 (by omega)) ⟨W0.heap.size, 0, none⟩ [(a, b)] 1 1 (by rfl) rfl (row_of_blk (xs := [(a, b)]) ((Blk.new W0 _ _).alloc _).drew) (by omega) (by simp) (by simp <;> omega) ?_; intro g2 cap2 wb hown hg; have UB : Up W0 wb := Up.own (((Up.refl W0).alloc _).alloc _).drew (lo_empty (blk_alloc2 (w := W0) (t := 25) (cs := #[.int .u64 a, .int .i64 b])) (by omega)) hg))
  all_goals
    go_wp2_with (fail)
    (try simp only [Exit.inBlock, Exit.then])
    go_ret2
    exact ⟨_, rfl, Sl.of_lo hown, U0.trans UB⟩
set_option maxHeartbeats 4000000 in
theorem radd_cons (p : Addr) (n c : Nat) (xs : List Ent) (a b most : Int) (w : World) (hr : Row w p xs) (hl : xs.length = n) (hn : 0 < n) (h1 : (n : Int) < most) (h2 : n < 64) : Calls Try.prog 12 #[.slice (some p) n c, .agg #[.int .u64 a, .int .i64 b], .int .i64 most] w (RePost (xs ++ [(a, b)]) 0 w) := by
  have hd : decide (most ≤ (n : Int)) = false := decide_eq_false (by omega)
  have hd2 : decide ((64 : Int) ≤ n) = false := decide_eq_false (by omega)
  have HL := Lib.hid hl
  clear hl h1
  go_enter Try.func12, Try.ntmps12
  go_wp2_with (fail)
  obtain ⟨W0, hW0⟩ : ∃ W : World, W = w.alloc (.cells #[.int .u64 a, .int .i64 b] 25) := ⟨_, rfl⟩
  have D0 : Blk W0 w.heap.size 25 #[.int .u64 a, .int .i64 b] := by rw [hW0]; exact (Blk.new w _ _)
  have U0 : Up w W0 := by rw [hW0]; exact ((Up.refl w).alloc _)
  have hB : w.heap.size < W0.heap.size := by rw [hW0]; simp
  have hr0 := hr.up U0
  have UR := Up.refl W0
  rw [← hW0]
  clear hW0
  have hsz := U0.size
  go_region_held3 (fun w' => ∀ i, w'.cell? ⟨w.heap.size, i, none⟩ = (#[.int .u64 a, .int .i64 b] : Array Value)[i]?)
    (first
      | exact fun i => D0.drew.cell i
      | exact fun i => (D0.alloc _).drew.cell i
      | exact fun i => (D0.drew.alloc _).cell i
      | exact fun i => ((D0.alloc _).drew.alloc _).cell i
      | exact fun i => ((D0.alloc _).alloc _).drew.cell i
      | exact fun i => (D0.up (by assumption)).cell i
      | exact fun i => (D0.up (Up.alloc (by assumption) _)).cell i
      | (trace_state; fail))
    (first
      | (refine step_more (by rfl) _ _ (by rfl) (some ⟨W0.heap.size, 0, none⟩) [] 0 (by rfl) ⟨rfl, fun q => absurd q (by simp)⟩ p xs n c (by rfl) HL.out (hr0.up (UR.alloc _).drew) hn (by omega) ?_; intro v1 wa hown1 hup1; have UA := (UR.alloc (.cells #[] 25)).drew.trans hup1)
      | (refine step_more (by rfl) _ _ (by rfl) (some ⟨W0.heap.size, 0, none⟩) [] 0 (by rfl) ⟨rfl, fun q => absurd q (by simp)⟩ p xs n c (by rfl) HL.out (hr0.up ((UR.alloc _).alloc _).drew) hn (by omega) ?_; intro v1 wa hown1 hup1; have hS := (blk_alloc2 (w := W0) (t := 25) (cs := #[]) (ds := #[.int .u64 a, .int .i64 b]) (u := 25)).up hup1; have UA := ((UR.alloc (.cells #[] 25)).alloc (.cells #[.int .u64 a, .int .i64 b] 25)).drew.trans hup1)
      | (refine step_more (by rfl) _ _ (by rfl) (some ⟨W0.heap.size + 1, 0, none⟩) [] 0 (by rfl) ⟨rfl, fun q => absurd q (by simp)⟩ p xs n c (by rfl) HL.out (hr0.up ((UR.alloc _).alloc _).drew) hn (by omega) ?_; intro v1 wa hown1 hup1; have hS : Blk wa W0.heap.size 25 #[.int .u64 a, .int .i64 b] := ((Blk.new W0 _ _).alloc _).drew.up hup1; have UA := ((UR.alloc (.cells #[.int .u64 a, .int .i64 b] 25)).alloc (.cells #[] 25)).drew.trans hup1)
      | (refine step_own (by rfl) _ _ (by rfl) W0.heap.size v1 xs (by rfl) (World.ownsRow.alloc (Lo.le hown1 (by simp [World.drew])) _) ⟨wa.heap.size, 0, none⟩ [(a, b)] 1 1 (by rfl) rfl (row_of_blk (xs := [(a, b)]) (Blk.new wa _ _)) (by omega) (by rw [HL.out]; omega) (UA.alloc _).size ?_; intro g2 cap2 wb hown hg; have UB : Up W0 wb := Up.own (UA.alloc _) (World.ownsRow.alloc (Lo.le hown1 (by simp [World.drew])) _) hg)
      | (refine step_own (by rfl) _ _ (by rfl) W0.heap.size v1 xs (by rfl) (Lo.le hown1 (by simp [World.drew] <;> omega)) ⟨W0.heap.size + 1, 0, none⟩ [(a, b)] 1 1 (by rfl) rfl (row_of_blk (xs := [(a, b)]) hS) (by omega) (by rw [HL.out]; omega) UA.size ?_; intro g2 cap2 wb hown hg; have UB : Up W0 wb := Up.own UA (Lo.le hown1 (by simp [World.drew] <;> omega)) hg)
      | (refine step_own (by rfl) _ _ (by rfl) W0.heap.size v1 xs (by rfl) (Lo.le hown1 (by simp [World.drew] <;> omega)) ⟨W0.heap.size, 0, none⟩ [(a, b)] 1 1 (by rfl) rfl (row_of_blk (xs := [(a, b)]) hS) (by omega) (by rw [HL.out]; omega) UA.size ?_; intro g2 cap2 wb hown hg; have UB : Up W0 wb := Up.own UA (Lo.le hown1 (by simp [World.drew] <;> omega)) hg))
  all_goals
    go_wp2_with (fail)
    (try simp only [Exit.inBlock, Exit.then])
    go_ret2
    exact ⟨_, rfl, Sl.of_lo hown, U0.trans UB⟩
theorem radd_any (v : Value) (xs : List Ent) (x : Ent) (most : Int) (w : World) (hx : Sl w v xs) : Calls Try.prog 12 #[v, ev x, .int .i64 most] w (RePost (ads xs x most) (ade xs most) w) := by
  have hx0 := hx
  obtain ⟨A, c, rfl, h1, h2, h3, hr⟩ := hx
  unfold ads ade
  by_cases h : (xs.length : Int) < most ∧ xs.length < 64
  · rw [if_pos h, if_pos h]
    by_cases h0 : xs = []
    · subst h0
      exact radd_nil A c x.1 x.2 most w hx0 h.1
    · have hp : 0 < xs.length := List.length_pos_iff.2 h0
      obtain ⟨p, rfl, hw⟩ := hr.2 hp
      exact radd_cons p _ c xs x.1 x.2 most w hw rfl hp h.1 h.2
  · rw [if_neg h, if_neg h]
    exact radd_full A _ c xs x.1 x.2 most w hx0 (by omega)
end Go.Proofs.Ytgofejhjnbnecaa
