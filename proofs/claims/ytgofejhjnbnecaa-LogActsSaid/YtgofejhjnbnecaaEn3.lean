/- A log's first entry, and one more (package log: First, Add; the document's First and Add): contracts. -/
import Derived.Test.YtgofejhjnbnecaaEn2
namespace Go.Proofs.Ytgofejhjnbnecaa
open Go.Joins Go.ChangeShapes Go.WideShapes Go.ChangeAt Go.RowKit Go.Deep Go.Shelf Go.Maps
set_option linter.unusedVariables false
set_option linter.unusedSimpArgs false

abbrev ev (x : Ent) : Value := .agg #[.int .u64 x.1, .int .i64 x.2]
theorem Up.set2 {a b : World} (h : Up a b) {g : Nat} (hg : a.heap.size ≤ g) (u0 u1 : Value) : Up a ((b.setCell ⟨g, 0, none⟩ u0).setCell ⟨g, 1, none⟩ u1) := (h.setCell hg u0).setCell hg u1
theorem Blk.set2 {w : World} {g : Nat} {t : TypeId} {x0 x1 : Value} (h : Blk w g t #[x0, x1]) (u0 u1 : Value) : Blk ((w.setCell ⟨g, 0, none⟩ u0).setCell ⟨g, 1, none⟩ u1) g t #[u0, u1] := by
  have := (h.set_ 0 u0).set_ 1 u1
  simpa using this
/-- The end of a call that answers an entry in a block of its own, and two values. -/
theorem ret_ent {fn : Func} {p u v : Tmp} (h : fn.results = #[.cell p 25, .tmp u, .tmp v]) (tmps : Array Value) (w : World) (g : Nat) (x y : Int) (a b : Value)
    (hp : tmps.getD p undef = .pointer (some ⟨g, 0, none⟩)) (hg : Blk w g 25 #[.int .u64 x, .int .i64 y]) (ha : tmps.getD u undef = a) (hb : tmps.getD v undef = b) :
    (results fn tmps).run Try.prog w = .ok (.tuple #[ev (x, y), a, b]) w := by
  have hp' : tmps[p]?.getD undef = .pointer (some ⟨g, 0, none⟩) := by simpa using hp
  have ha' : tmps[u]?.getD undef = a := by simpa using ha
  have hb' : tmps[v]?.getD undef = b := by simpa using hb
  simp [results, h, hp', ha', hb', asAddr, run_loadVar_row w g 25 25 _ _ _ hg Try.underlying25 rfl (by kernel_rfl)]
/-- 'l[1:]' of some. -/
def tlA (p : Addr) (c : Nat) : Addr := if c = 1 then p else p.add 2
theorem run_tl (p : Addr) (n c : Nat) (hn : 0 < n) (hc : n ≤ c) (w : World) :
    (Instr.sliceAt 22 (.slice (some p) n c) (some (.int .i64 1)) none none).run Try.prog w = .ok (.slice (some (tlA p c)) (n - 1) (c - 1)) w ∧ (Instr.slice 22 (.slice (some p) n c) (some (.int .i64 1)) none none).run Try.prog w = .ok (.slice (some (tlA p c)) (n - 1) (c - 1)) w := by
  obtain ⟨i0, hi0, hz0, hz1, hz2⟩ := info3
  have hel : Try.prog.elem 22 = 25 := by kernel_rfl
  have hu : Try.prog.underlying 22 = some (.slice (Try.prog.elem 22)) := by rw [hel]; exact Try.underlying22
  rw [run_sliceAt_slice (h := hu), and_self, run_slice_l (ht := hu) (h0 := by omega) (h1 := by omega), hel]
  unfold tlA
  by_cases h : c = 1 <;> simp [sizeOf, typeInfo, hi0, hz1, sliced, h]
theorem tl_sl {w : World} {p : Addr} {n c : Nat} {xs : List Ent} (hr : Row w p xs) (hl : xs.length = n) (hn : 0 < n) (hc : n ≤ c) (hm : c ≤ maxLen) : Sl w (.slice (some (tlA p c)) (n - 1) (c - 1)) xs.tail := by
  have hl2 : xs.tail.length = n - 1 := by simp [hl]
  refine ⟨some (tlA p c), c - 1, by rw [hl2], by omega, by omega, fun q => (by cases q), rfl, fun hp => ⟨_, rfl, ?_⟩⟩
  have hc1 : ¬ c = 1 := by omega
  rw [show tlA p c = p.add 2 from if_neg hc1]
  refine ⟨by rw [block_of_add]; exact hr.1, fun j v hv => ?_⟩
  rw [add_add, Nat.add_comm]
  refine hr.2 (j + 2) v ?_
  cases xs with
  | nil => simp at hl; omega
  | cons x r => simpa [evs] using hv
def FiPost (xs : List Ent) (w : World) (e : Ending) (w' : World) : Prop := ∃ v, e = .returned (.tuple #[ev (xs.getD 0 (0, 0)), v, .bool (decide (xs ≠ []))]) ∧ Sl w' v xs.tail ∧ Up w w'
theorem first_nil (A : Option Addr) (c : Nat) (w : World) (hx : Sl w (.slice A 0 c) []) : Calls Try.prog 13 #[.slice A 0 c] w (FiPost [] w) := by
  go_enter Try.func13, Try.ntmps13
  go_wp2
  refine bodyPost_ret (ret_ent rfl _ _ _ _ _ _ _ rfl ((Blk.new w 25 #[.int .u64 0, .int .i64 0])) rfl rfl) rfl ?_
  exact ⟨_, rfl, hx.up ((Up.refl _).alloc _), (Up.refl _).alloc _⟩
set_option maxHeartbeats 1000000 in
theorem first_cons (p : Addr) (n c : Nat) (xs : List Ent) (w : World) (hr : Row w p xs) (hl : xs.length = n) (hn : 0 < n) (hc : n ≤ c) (hm : c ≤ maxLen) (hb : n ≤ 8796093022208) : Calls Try.prog 13 #[.slice (some p) n c] w (FiPost xs w) := by
  have hcl := Lib.hid (fun w' (k : Up w w') => clone_any _ _ w' ((tl_sl hr hl hn hc hm).up k) (by rw [List.length_tail]; omega))
  have htl := fun w' => run_tl p n c hn hc w'
  have hR := hr.at_ 0 (by omega)
  have hne : Hid (decide (xs ≠ []) = true) := Lib.hid (decide_eq_true (fun q => by subst q; simp at hl; omega))
  have hd : ((n : Int) == 0) = false := beq_eq_false_iff_ne.2 (by omega)
  rw [Nat.zero_mul, Addr.add_zero'] at hR
  generalize hx0 : xs.getD 0 (0, 0) = x0 at hR
  obtain ⟨x1, x2⟩ := x0
  obtain ⟨hc0, hc1⟩ := hR
  have HX0 := Lib.hid hx0
  have hlt := hr.1
  unfold maxLen at hm
  clear hx0
  generalize tlA p c = q at hcl htl
  obtain ⟨htl1, htl2⟩ : (∀ w', _) ∧ (∀ w', _) := ⟨fun w' => (htl w').1, fun w' => (htl w').2⟩
  clear htl hr hl
  go_enter Try.func13, Try.ntmps13
  go_wp2_with (fail)
  obtain ⟨W0, hW0⟩ : ∃ W : World, W = w.alloc (.cells #[.int .u64 0, .int .i64 0] 25) := ⟨_, rfl⟩
  have D0 : Blk W0.drew w.heap.size 25 #[.int .u64 0, .int .i64 0] := by rw [hW0]; exact (Blk.new w _ _).drew
  have U0 : Up w W0.drew := by rw [hW0]; exact ((Up.refl w).alloc _).drew
  have hc0' : W0.drew.cell? p = some (.int .u64 x1) := (Below.cell U0 hlt).trans hc0
  have hc1' : W0.drew.cell? ⟨p.block, p.off + 1, none⟩ = some (.int .i64 x2) := (Below.cell U0 (p := nxt p) hlt).trans hc1
  have hB0 : w.heap.size < W0.drew.heap.size := by rw [hW0]; simp [World.drew]
  have HC0 := Lib.hid hc0
  have HC1 := Lib.hid hc1
  rw [← hW0]
  clear hW0 hc0 hc1
  go_region_held3 (fun w' => w'.cell? p = some (.int .u64 x1) ∧ w'.cell? ⟨p.block, p.off + 1, none⟩ = some (.int .i64 x2))
    (first
      | exact ⟨hc0', hc1'⟩
      | exact ⟨(Below.cell (by assumption) hlt).trans HC0.out, (Below.cell (p := nxt p) (by assumption) hlt).trans HC1.out⟩
      | exact ⟨(Below.cell (Up.set2 U2 (Nat.le_refl _) _ _) hlt).trans HC0.out, (Below.cell (p := nxt p) (Up.set2 U2 (Nat.le_refl _) _ _) hlt).trans HC1.out⟩)
    ((go_at_call 22; ((with_reducible refine (hcl.out _ U0).mono ?_); rintro e w2 ⟨v, rfl, hs, hlo, k2⟩; have D2 := D0.up k2; have U2 := U0.trans k2; have D2c := D2.cell; have D2f := D2.frozen; have D2l := D2.lt)))
  all_goals
    go_wp2_with (fail)
    (try simp only [Exit.inBlock, Exit.then])
    refine bodyPost_ret (ret_ent rfl _ _ _ _ _ v (.bool true) rfl (D2.set2 _ _) rfl rfl) rfl ?_
    exact ⟨v, by rw [HX0.out, hne.out], (((hs.far hlo hB0 _).1.far (hs.far hlo hB0 _).2 hB0 _)).1, U2.set2 (Nat.le_refl _) _ _⟩
theorem first_any (v : Value) (xs : List Ent) (w : World) (hx : Sl w v xs) (hb : xs.length ≤ 8796093022208) : Calls Try.prog 13 #[v] w (FiPost xs w) := by
  have hx0 := hx
  obtain ⟨A, c, rfl, h1, h2, h3, hr⟩ := hx
  by_cases h : xs = []
  · subst h
    exact first_nil A c w hx0
  · have hp : 0 < xs.length := List.length_pos_iff.2 h
    obtain ⟨p, rfl, hw⟩ := hr.2 hp
    exact first_cons p _ c xs w hw rfl hp h1 h2 hb
theorem rfirst_nil (A : Option Addr) (c : Nat) (w : World) (hx : Sl w (.slice A 0 c) []) : Calls Try.prog 14 #[.slice A 0 c] w (FiPost [] w) := by
  go_enter Try.func14, Try.ntmps14
  go_wp2
  refine bodyPost_ret (ret_ent rfl _ _ _ _ _ _ _ rfl ((Blk.new w 25 #[.int .u64 0, .int .i64 0])) rfl rfl) rfl ?_
  exact ⟨_, rfl, hx.up ((Up.refl _).alloc _), (Up.refl _).alloc _⟩
set_option maxHeartbeats 1000000 in
theorem rfirst_cons (p : Addr) (n c : Nat) (xs : List Ent) (w : World) (hr : Row w p xs) (hl : xs.length = n) (hn : 0 < n) (hc : n ≤ c) (hm : c ≤ maxLen) (hb : n ≤ 8796093022208) : Calls Try.prog 14 #[.slice (some p) n c] w (FiPost xs w) := by
  have hts := tl_sl hr hl hn hc hm
  have htl := fun w' => run_tl p n c hn hc w'
  have hR := hr.at_ 0 (by omega)
  have hne : Hid (decide (xs ≠ []) = true) := Lib.hid (decide_eq_true (fun q => by subst q; simp at hl; omega))
  have hd : ((n : Int) == 0) = false := beq_eq_false_iff_ne.2 (by omega)
  have hl2 : Hid (xs.tail.length = n - 1) := Lib.hid (by simp [hl])
  rw [Nat.zero_mul, Addr.add_zero'] at hR
  generalize hx0 : xs.getD 0 (0, 0) = x0 at hR
  obtain ⟨x1, x2⟩ := x0
  obtain ⟨hc0, hc1⟩ := hR
  have HX0 := Lib.hid hx0
  have hlt := hr.1
  unfold maxLen at hm
  have hrow := Lib.hid hts.rd
  clear hx0
  generalize tlA p c = q at hts hrow htl
  obtain ⟨htl1, htl2⟩ : (∀ w', _) ∧ (∀ w', _) := ⟨fun w' => (htl w').1, fun w' => (htl w').2⟩
  generalize hts0 : xs.tail = ts at *
  have HTS := Lib.hid hts0
  clear hts0 htl hr hl hts
  go_enter Try.func14, Try.ntmps14
  go_wp2_with (fail)
  obtain ⟨W0, hW0⟩ : ∃ W : World, W = w.alloc (.cells #[.int .u64 0, .int .i64 0] 25) := ⟨_, rfl⟩
  have D0 : Blk W0 w.heap.size 25 #[.int .u64 0, .int .i64 0] := by rw [hW0]; exact (Blk.new w _ _)
  have U0 : Up w W0 := by rw [hW0]; exact ((Up.refl w).alloc _)
  have U1 : Up w (W0.alloc (.cells #[] 25)).drew := (U0.alloc _).drew
  have D1 : Blk (W0.alloc (.cells #[] 25)).drew w.heap.size 25 #[.int .u64 0, .int .i64 0] := (D0.alloc _).drew
  have D1c := D1.cell
  have D1f := D1.frozen
  have D1l := D1.lt
  have D0c := D0.cell
  have D0f := D0.frozen
  have D0l := D0.lt
  have hc0' : W0.drew.cell? p = some (.int .u64 x1) := (Below.cell U0.drew hlt).trans hc0
  have hc1' : W0.drew.cell? ⟨p.block, p.off + 1, none⟩ = some (.int .i64 x2) := (Below.cell U0.drew (p := nxt p) hlt).trans hc1
  have hB0 : w.heap.size < W0.heap.size := by rw [hW0]; simp
  have HC0 := Lib.hid hc0
  have HC1 := Lib.hid hc1
  rw [← hW0]
  clear hW0 hc0 hc1
  by_cases h1 : n = 1
  · have HN := Lib.hid (show ts = [] from List.eq_nil_of_length_eq_zero (by rw [hl2.out]; omega))
    subst h1
    rw [show 1 - 1 = 0 from rfl] at htl1 htl2
    go_region_held3 (fun w' => w'.cell? p = some (.int .u64 x1) ∧ w'.cell? ⟨p.block, p.off + 1, none⟩ = some (.int .i64 x2))
      (first
        | exact ⟨hc0', hc1'⟩
        | exact ⟨(Below.cell U1 hlt).trans HC0.out, (Below.cell (p := nxt p) U1 hlt).trans HC1.out⟩
        | exact ⟨(Below.cell (((U0.set2 (Nat.le_refl _) _ _).alloc _).drew) hlt).trans HC0.out, (Below.cell (p := nxt p) (((U0.set2 (Nat.le_refl _) _ _).alloc _).drew) hlt).trans HC1.out⟩)
      (refine step_nothing (by rfl) _ _ (by rfl) (some ⟨W0.heap.size, 0, none⟩) (some q) (c - 1) (by rfl) (by rfl) ?_)
    all_goals
      go_wp2_with (fail)
      (try simp only [Exit.inBlock, Exit.then])
      refine bodyPost_ret (ret_ent rfl _ _ _ _ _ (.slice (some ⟨W0.heap.size, 0, none⟩) 0 0) (.bool true) rfl (((D0.set2 _ _).alloc _).drew) rfl rfl) rfl ?_
      exact ⟨_, by rw [HX0.out, hne.out], by rw [HTS.out, HN.out]; exact Sl.of_lo (n₀ := 0) (lo_empty (Blk.new' _ (by simp [World.setCell]) _ _).drew (Nat.zero_le _)), ((U0.set2 (Nat.le_refl _) _ _).alloc _).drew⟩
  · have hr2 : ∃ p', some q = some p' ∧ Row w p' ts := hrow.out.2 (by omega)
    obtain ⟨q', e, hr2⟩ := hr2
    cases e
    have hr3 := hr2.up U1
    go_region_held3 (fun w' => w'.cell? p = some (.int .u64 x1) ∧ w'.cell? ⟨p.block, p.off + 1, none⟩ = some (.int .i64 x2))
      (first
        | exact ⟨hc0', hc1'⟩
        | exact ⟨(Below.cell (by assumption) hlt).trans HC0.out, (Below.cell (p := nxt p) (by assumption) hlt).trans HC1.out⟩
        | exact ⟨(Below.cell (Up.set2 (by assumption) (Nat.le_refl _) _ _) hlt).trans HC0.out, (Below.cell (p := nxt p) (Up.set2 (by assumption) (Nat.le_refl _) _ _) hlt).trans HC1.out⟩)
      ((refine step_more (by rfl) _ _ (by rfl) (some ⟨W0.heap.size, 0, none⟩) [] 0 (by rfl) ⟨rfl, fun q => absurd q (by simp)⟩ q ts (n - 1) (c - 1) (by rfl) hl2.out hr3 (by omega) (by omega) ?_; intro v' w2 hown k2; have D2 := D1.up k2; have U2 := U1.trans k2; have D2c := D2.cell; have D2f := D2.frozen; have D2l := D2.lt))
    all_goals
      go_wp2_with (fail)
      (try simp only [Exit.inBlock, Exit.then])
      refine bodyPost_ret (ret_ent rfl _ _ _ _ _ v' (.bool true) rfl (D2.set2 _ _) rfl rfl) rfl ?_
      have hown : Lo w2 (W0.alloc (.cells #[] 25)).drew.heap.size v' ts := hown
      have hlo : ts ≠ [] → Lo w2 W0.heap.size v' ts := fun _ => Lo.le hown (by simp [World.drew])
      have hs := Sl.of_lo hown
      exact ⟨v', by rw [HX0.out, hne.out], by rw [HTS.out]; exact (((hs.far hlo hB0 _).1.far (hs.far hlo hB0 _).2 hB0 _)).1, U2.set2 (Nat.le_refl _) _ _⟩
theorem rfirst_any (v : Value) (xs : List Ent) (w : World) (hx : Sl w v xs) (hb : xs.length ≤ 8796093022208) : Calls Try.prog 14 #[v] w (FiPost xs w) := by
  have hx0 := hx
  obtain ⟨A, c, rfl, h1, h2, h3, hr⟩ := hx
  by_cases h : xs = []
  · subst h
    exact rfirst_nil A c w hx0
  · have hp : 0 < xs.length := List.length_pos_iff.2 h
    obtain ⟨p, rfl, hw⟩ := hr.2 hp
    exact rfirst_cons p _ c xs w hw rfl hp h1 h2 hb
end Go.Proofs.Ytgofejhjnbnecaa
