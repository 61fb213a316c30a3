/- Rows of words, what a call makes of its own, sets of addresses, what is handed in: picked out of the elder stages' texts. -/
import Derived.Test.YtpbbbgcafphplaaBas
import Derived.ScopeJumps
import Derived.Laws.CopyOwn
import Derived.Laws.OwnMore
import Derived.Laws.EntriesVeiled
import Derived.Deep.AppendLies
import Derived.Deep.RegionLaw
import Derived.Deep.RegionHeld3
import Derived.Deep.QuietTactic
import Derived.Deep.Slices
import Derived.BigQuiet
import Derived.RangeFuncBox
import Derived.RangeFuncNested
import Derived.RangeFuncBound
import Derived.RangeFuncCalls
import Derived.RangeFuncLeaves
import Derived.RangeFuncWrites
import Derived.Shelf.Abstract
import Derived.OwnWalkIn
import Derived.TacticsInMore
import Derived.LoopNIn
import Derived.LoopIn
import Derived.Maps.AppendAt
import Derived.Maps.OwnIn
import Derived.Maps.OwnSet
import Derived.Maps.Own
import Derived.Maps.Views
import Derived.Lib.Small
import Derived.Lib.Walk
import Derived.Carry
import Derived.WideKeyArgs
import Derived.ChangeArms
import Derived.Lib.SmallJoins
namespace Go.Proofs.Ytpbbbgcafphplaa
open Go.Joins Go.ChangeShapes Go.WideShapes Go.ChangeAt Go.RowKit Go.Deep Go.Shelf Go.Maps
set_option linter.unusedVariables false
set_option linter.unusedSimpArgs false
attribute [local go_sem] Oper.semAt_some

theorem block_of_add (a : Addr) (n : Nat) : (a.add n).block = a.block := by unfold Addr.add; split <;> rfl
/-- A row of words lies at an address. -/
def Row (w : World) (p : Addr) (xs : List Int) : Prop := p.block < w.heap.size ∧ ∀ j x, xs[j]? = some x → w.cell? (p.add j) = some (.int .u64 x)
theorem Row.up {w w' : World} {p : Addr} {xs : List Int} (h : Row w p xs) (k : Up w w') : Row w' p xs :=
  ⟨Nat.lt_of_lt_of_le h.1 k.size, fun j x hx => (Below.cell k (by rw [block_of_add]; exact h.1)).trans (h.2 j x hx)⟩
theorem Row.at_ {w : World} {p : Addr} {xs : List Int} (h : Row w p xs) (j : Nat) (hj : j < xs.length) : w.cell? (p.add j) = some (.int .u64 (xs.getD j 0)) := by
  rw [h.2 j xs[j] (List.getElem?_eq_getElem hj)]
  simp [List.getD, List.getElem?_eq_getElem hj]
/-- All old cells and marks read as before. -/
theorem bcell {W w1 : World} (hb : Up W w1) : (∀ b o, b < W.heap.size → w1.cell? ⟨b, o, none⟩ = W.cell? ⟨b, o, none⟩) ∧ (∀ b o, b < W.heap.size → w1.frozen? ⟨b, o, none⟩ = W.frozen? ⟨b, o, none⟩) :=
  ⟨fun b o h => Below.cell hb (p := ⟨b, o, none⟩) h, fun b o h => Below.frozen hb (p := ⟨b, o, none⟩) h⟩
theorem Up.lt {a b : World} (h : Up a b) {k : Nat} (hk : k < a.heap.size) : k < b.heap.size := Nat.lt_of_lt_of_le hk h.size
theorem nn_of_wf {a : Int} (h : (Lit.int .u64 a).wf = true) : 0 ≤ a := by
  have e : IntKind.u64.min = 0 := by decide
  simp [Lit.wf, e] at h
  omega
theorem hi_of_wf {a : Int} (h : (Lit.int .u64 a).wf = true) : a ≤ 18446744073709551615 := by
  have e : IntKind.u64.max = 18446744073709551615 := by decide
  simp [Lit.wf, e] at h
  omega
/-- A word as a value. -/
def wd (x : Int) : Value := .int .u64 x
def wds (xs : List Int) : List Value := xs.map wd
theorem len_wds (xs : List Int) : (wds xs).length = xs.length := by simp [wds]
theorem one_wds (xs : List Int) : ∀ v ∈ wds xs, v.oneCell' = true := by
  intro v hv
  obtain ⟨x, _, rfl⟩ := List.mem_map.1 hv
  rfl
theorem info_u64 : (Try.prog.info? 23).map (fun i => (i.zero, i.size, i.bytes)) = some (some (.int .u64 0), 1, 8) := by kernel_rfl
theorem size_u64 : (Try.prog.info? 23).map (·.size) = some 1 := by kernel_rfl
theorem add_zero' (g j : Nat) : (⟨g, 0, none⟩ : Addr).add j = ⟨g, j, none⟩ := by unfold Addr.add; split <;> simp_all
/-- A block of words is a row. -/
theorem row_of_blk {w : World} {g : Nat} {t : TypeId} {xs : List Int} (h : w.heap[g]? = some (.cells (wds xs).toArray t (0, 0))) : Row w ⟨g, 0, none⟩ xs := by
  have hlt : g < w.heap.size := by
    rcases Nat.lt_or_ge g w.heap.size with hlt | hge
    · exact hlt
    · rw [Array.getElem?_eq_none hge] at h; cases h
  refine ⟨hlt, fun j x hx => ?_⟩
  rw [add_zero', cell_of_row w g j _ t (0, 0) h]
  simp [wds, hx, wd]
theorem Blk.row {w : World} {g : Nat} {xs : List Int} {t : TypeId} (h : Blk w g t (wds xs).toArray) : Row w ⟨g, 0, none⟩ xs := row_of_blk h
theorem Row.src {w : World} {p : Addr} {xs : List Int} (h : Row w p xs) : ∀ j v, (wds xs)[j]? = some v → w.cell? (p.add j) = some v := by
  intro j v hv
  simp only [wds, List.getElem?_map, Option.map_eq_some_iff] at hv
  obtain ⟨x, hx, rfl⟩ := hv
  exact h.2 j x hx
/-- A row lies in no block that is shorter. -/
theorem Row.apart {w : World} {p : Addr} {xs : List Int} {g : Nat} {t : TypeId} {cs : Array Value} (h : Row w p xs) (hb : Blk w g t cs) (hl : cs.size < xs.length) : p.block ≠ g := by
  intro e
  have hc := h.2 (xs.length - 1) xs[xs.length - 1] (List.getElem?_eq_getElem (by omega))
  unfold Blk at hb
  have ho : cs.size ≤ (p.add (xs.length - 1)).off := by
    unfold Addr.add
    split
    · omega
    · simp; omega
  unfold World.cell? at hc
  rw [block_of_add, e, hb] at hc
  simp only at hc
  split at hc
  · cases hc
  · rw [Array.getElem?_eq_none ho] at hc; cases hc
theorem Row.far {w : World} {p q : Addr} {xs : List Int} (h : Row w p xs) (hq : p.block ≠ q.block) (u : Value) : Row (w.setCell q u) p xs :=
  ⟨by simpa [World.setCell] using h.1, fun j x hx => (World.cell?_setCell_other w q (p.add j) u (fun e => hq (by rw [e, block_of_add]))).trans (h.2 j x hx)⟩
theorem grownBy_setRow (w : World) (g : Nat) (cs : Array Value) : w.grownBy (w.setRow g cs) (some g) :=
  ⟨rfl, rfl, rfl, by simp [World.setRow], fun k _ hk => setRow_other w g k cs (fun e => hk (by rw [e]))⟩
/-- A slice reads as a list of words, nil let in. -/
def Rd (w : World) (A : Option Addr) (n : Nat) (xs : List Int) : Prop := xs.length = n ∧ (0 < n → ∃ p, A = some p ∧ Row w p xs)
theorem Rd.up {w w' : World} {A : Option Addr} {n : Nat} {xs : List Int} (h : Rd w A n xs) (k : Up w w') : Rd w' A n xs :=
  ⟨h.1, fun hn => by obtain ⟨p, e, hr⟩ := h.2 hn; exact ⟨p, e, hr.up k⟩⟩
theorem Rd.of_row {w : World} {p : Addr} {xs : List Int} {n : Nat} (h : Row w p xs) (hn : xs.length = n) : Rd w (some p) n xs := ⟨hn, fun _ => ⟨p, rfl, h⟩⟩
theorem Rd.at_ {w : World} {A : Option Addr} {n x : Nat} {xs : List Int} (h : Rd w A n xs) (hx : x < n) : ∃ p, A = some p ∧ w.cell? (p.add x) = some (.int .u64 (xs.getD x 0)) := by
  obtain ⟨p, e, hr⟩ := h.2 (by omega)
  exact ⟨p, e, hr.at_ x (by rw [h.1]; exact hx)⟩
theorem take_more {xs ys : List Int} {x : Nat} (h : xs.take x = ys.take x) (h1 : x < xs.length) (h2 : x < ys.length) (e : xs.getD x 0 = ys.getD x 0) : xs.take (x + 1) = ys.take (x + 1) := by
  rw [List.take_succ_eq_append_getElem h1, List.take_succ_eq_append_getElem h2, h]
  simp [List.getD, List.getElem?_eq_getElem h1, List.getElem?_eq_getElem h2] at e
  rw [e]
theorem ne_of_get {xs ys : List Int} {x : Nat} (e : xs.getD x 0 ≠ ys.getD x 0) : xs ≠ ys := fun h => e (by rw [h])
def EqRel (w : World) (xs ys : List Int) (n : Nat) (i : Value) (wr : World) : Prop := ∃ x : Nat, x ≤ n ∧ i = .int .i64 x ∧ xs.take x = ys.take x ∧ Up w wr
set_option maxHeartbeats 2000000 in
theorem rwords_len (A B : Option Addr) (n k c d : Nat) (w : World) (hnk : n ≠ k) :
    Calls Try.prog 20 #[.slice A n c, .slice B k d] w fun e w' => e = .returned (.bool false) ∧ Up w w' := by
  have hb : ((n : Int) != (k : Int)) = true := bne_iff_ne.mpr (by omega)
  clear hnk
  go_enter Try.func20, Try.ntmps20
  go_wp2
  go_ret
  exact ⟨rfl, Up.refl _⟩
set_option maxHeartbeats 2000000 in
theorem rwords_same (A B : Option Addr) (n c d : Nat) (xs ys : List Int) (w : World) (hx : Rd w A n xs) (hy : Rd w B n ys) (hn : n ≤ maxLen) :
    Calls Try.prog 20 #[.slice A n c, .slice B n d] w fun e w' => e = .returned (.bool (decide (xs = ys))) ∧ Up w w' := by
  have HX := Lib.hid hx
  have HY := Lib.hid hy
  have Lx := Lib.hid hx.1
  have Ly := Lib.hid hy.1
  unfold maxLen at hn
  generalize hB : decide (xs = ys) = bo
  have HB := Lib.hid hB
  clear hx hy hB
  go_enter Try.func20, Try.ntmps20
  go_wp2
  go_loopw [5] (fun i wr => EqRel w xs ys n i wr) (fun i _ => n - (intOf i).toNat)
  case atStart => exact ⟨0, Nat.zero_le _, rfl, rfl, Up.refl _⟩
  case round =>
    obtain ⟨x, hx, rfl, ht, U⟩ := hrel
    have HT := Lib.hid ht
    clear ht
    by_cases hlt : x < n
    · obtain ⟨p, rfl, hcp⟩ := (HX.out.up U).at_ hlt
      obtain ⟨q, rfl, hcq⟩ := (HY.out.up U).at_ hlt
      by_cases e : xs.getD x 0 = ys.getD x 0
      · have E := Lib.hid e
        rw [← e] at hcq
        generalize xs.getD x 0 = u at hcp hcq
        clear e
        go_wp2
        go_region
        all_goals
          go_wp2
          refine ⟨⟨x + 1, by omega, by go_num, take_more HT.out (by rw [Lx.out]; exact hlt) (by rw [Ly.out]; exact hlt) E.out, U.drew⟩, by simp [intOf]; omega⟩
      · have E := Lib.hid e
        have hne : (xs.getD x 0 != ys.getD x 0) = true := bne_iff_ne.mpr e
        generalize xs.getD x 0 = u at hcp hne
        generalize ys.getD x 0 = v at hcq hne
        clear e
        go_wp2
        go_region
        all_goals
          go_wp2
          go_ret
          exact ⟨show Ending.returned (.bool false) = .returned (.bool bo) from by rw [← HB.out, decide_eq_false (ne_of_get E.out)], U.drew⟩
    · obtain rfl : n = x := by omega
      go_wp2
      go_ret
      have h := HT.out
      rw [List.take_of_length_le (by rw [Lx.out]; exact Nat.le_refl _), List.take_of_length_le (by rw [Ly.out]; exact Nat.le_refl _)] at h
      exact ⟨show Ending.returned (.bool true) = .returned (.bool bo) from by rw [← HB.out, decide_eq_true h], U⟩
theorem rwords_any (A B : Option Addr) (n k c d : Nat) (xs ys : List Int) (w : World) (hx : Rd w A n xs) (hy : Rd w B k ys) (hn : n ≤ maxLen) :
    Calls Try.prog 20 #[.slice A n c, .slice B k d] w fun e w' => e = .returned (.bool (decide (xs = ys))) ∧ Up w w' := by
  by_cases h : n = k
  · subst h
    exact rwords_same A B n c d xs ys w hx hy hn
  · rw [decide_eq_false (fun e => h (by rw [← hx.1, ← hy.1, e]))]
    exact rwords_len A B n k c d w h
theorem Up.gb {a b : World} (h : Up a b) : a.grownBy b none := ⟨h.os, h.tape, h.output, h.size, fun i hi _ => h.block i hi⟩
theorem Up.bel {a b : World} {n : Nat} (h : Up a b) (hn : n ≤ a.heap.size) : Below n a b := Below.mono h hn
theorem info_int : (Try.prog.info? 3).map (fun i => (i.zero, i.size, i.bytes)) = some (some (.int .i64 0), 1, 8) := by kernel_rfl
theorem own_blk {β : Type} (B g : Nat) (t : TypeId) (cs : Array Value) : OwnFrom (β := β) B (fun _ W => Blk W g t cs) := fun s W W' row hs hg hr =>
  hs.grown hg (fun e => by
    obtain ⟨-, o, ho, hc⟩ := hr g e.symm
    unfold Blk at hs
    rw [hs] at ho
    cases ho
    cases hc)
theorem own_row_ne {w : World} {base : Nat} {e t : TypeId} {size n g : Nat} {v : Value} {xs : List Value} {cs : Array Value} (h : w.ownsRow base e size v n xs) (hg : Blk w g t cs) (hne : e ≠ t) : some g ≠ v.ownBlock := by
  rcases h.2 with ⟨rfl, _⟩ | ⟨g', cap, cur, rfl, _, hh, _⟩
  · simp [Value.ownBlock]
  · intro he
    have : g = g' := by simpa [Value.ownBlock] using he
    subst this
    unfold Blk at hg
    rw [hg] at hh
    injection hh with hh
    injection hh with _ ht
    exact hne ht.symm
/-- The world has grown; what was there is as it was, but for the blocks of S. -/
structure Kp (S : List Nat) (w w' : World) : Prop where
  os : w'.os = w.os
  tape : w'.tape = w.tape
  output : w'.output = w.output
  size : w.heap.size ≤ w'.heap.size
  block : ∀ k, k < w.heap.size → k ∉ S → w'.heap[k]? = w.heap[k]?
theorem Kp.of_up {S : List Nat} {a b : World} (h : Up a b) : Kp S a b := ⟨h.os, h.tape, h.output, h.size, fun k hk _ => h.block k hk⟩
theorem Kp.refl (S : List Nat) (a : World) : Kp S a a := .of_up (Up.refl a)
theorem Kp.trans {S : List Nat} {a b c : World} (h : Kp S a b) (k : Kp S b c) : Kp S a c :=
  ⟨k.os.trans h.os, k.tape.trans h.tape, k.output.trans h.output, Nat.le_trans h.size k.size, fun i hi hS => (k.block i (Nat.lt_of_lt_of_le hi h.size) hS).trans (h.block i hi hS)⟩
theorem Kp.mono {S T : List Nat} {a b : World} (h : Kp S a b) (k : ∀ x ∈ S, x ∈ T) : Kp T a b := ⟨h.os, h.tape, h.output, h.size, fun i hi hT => h.block i hi (fun q => hT (k i q))⟩
theorem Kp.up {S : List Nat} {a b c : World} (h : Kp S a b) (k : Up b c) : Kp S a c := h.trans (.of_up k)
theorem Kp.set_ {S : List Nat} {a b : World} (h : Kp S a b) {g i : Nat} (hg : g ∈ S) (u : Value) : Kp S a (b.setCell ⟨g, i, none⟩ u) :=
  ⟨h.os, h.tape, h.output, by simpa [World.setCell] using h.size, fun k hk hS => (Below.heap_setCell b ⟨g, i, none⟩ u k (fun e => hS (by rw [e]; exact hg))).trans (h.block k hk hS)⟩
theorem Up.kp {S : List Nat} {a b c : World} (h : Up a b) (k : Kp S b c) (hS : ∀ x ∈ S, a.heap.size ≤ x) : Up a c :=
  ⟨k.os.trans h.os, k.tape.trans h.tape, k.output.trans h.output, Nat.le_trans h.size k.size, fun i hi => (k.block i (Nat.lt_of_lt_of_le hi h.size) (fun q => by have := hS i q; omega)).trans (h.block i hi)⟩
theorem Blk.kp {S : List Nat} {w w' : World} {g : Nat} {t : TypeId} {cs : Array Value} (h : Blk w g t cs) (k : Kp S w w') (hg : g ∉ S) : Blk w' g t cs := (k.block g h.lt hg).trans h
theorem Row.kp {S : List Nat} {w w' : World} {p : Addr} {xs : List Int} (h : Row w p xs) (k : Kp S w w') (hp : p.block ∉ S) : Row w' p xs := by
  refine ⟨Nat.lt_of_lt_of_le h.1 k.size, fun j x hx => ?_⟩
  have e := h.2 j x hx
  unfold World.cell? at e ⊢
  rw [block_of_add] at e ⊢
  rw [k.block p.block h.1 hp]
  exact e
theorem Blk.new' (w : World) {g : Nat} (hg : g = w.heap.size) (t : TypeId) (cs : Array Value) : Blk (w.alloc (.cells cs t)) g t cs := by subst hg; exact Blk.new w t cs
/-- The world of a call under a name. -/
theorem calls_at {P : Program} {f : FuncId} {args : Array Value} {w : World} {R : Ending → World → Prop} (h : ∀ W, W = w → Calls P f args W R) : Calls P f args w R := h w rfl
/-- A row of the call's own: words. -/
def Lo (w : World) (n₀ : Nat) (v : Value) (xs : List Int) : Prop := w.ownsRow n₀ 23 1 v xs.length (wds xs)
theorem Lo.sl {w : World} {n₀ : Nat} {v : Value} {xs : List Int} (h : Lo w n₀ v xs) : ∃ A cap, v = .slice A xs.length cap ∧ xs.length ≤ cap ∧ cap ≤ maxLen ∧ Rd w A xs.length xs := by
  obtain ⟨hl, hc⟩ := h
  rcases hc with ⟨rfl, h0⟩ | ⟨g, cap, cur, rfl, hb, hg, h1, h2, h3, h4⟩
  · obtain rfl : xs = [] := List.eq_nil_of_length_eq_zero h0
    exact ⟨none, 0, rfl, Nat.le_refl _, Nat.zero_le _, rfl, fun q => absurd q (by simp)⟩
  · refine ⟨_, _, rfl, h1, h2, rfl, fun q => ⟨_, rfl, ?_, fun j x hx => ?_⟩⟩
    · exact (Array.getElem?_eq_some_iff.1 hg).1
    · rw [add_zero', cell_of_row w g j cur _ (0, 0) hg]
      have hj : (wds xs)[j]? = some (.int .u64 x) := by simp [wds, hx, wd]
      rw [← h4, List.getElem?_take] at hj
      have hlt : j < xs.length := by
        rcases Nat.lt_or_ge j xs.length with q | q
        · exact q
        · rw [List.getElem?_eq_none q] at hx; cases hx
      rw [if_pos (by omega)] at hj
      simpa using hj
theorem Lo.nil (w : World) (n₀ : Nat) : Lo w n₀ (.slice none 0 0) [] := World.ownsRow_nil _ _ _ _
theorem Lo.up {w w' : World} {n₀ : Nat} {v : Value} {xs : List Int} (h : Lo w n₀ v xs) (k : Up w w') : Lo w' n₀ v xs :=
  World.ownsRow.kept h k.gb (by
    cases e : v.ownBlock with
    | none => exact .inl rfl
    | some g => exact .inr (by simp))
theorem Row.below {n₀ : Nat} {w w' : World} {p : Addr} {xs : List Int} (h : Row w p xs) (k : Below n₀ w w') (hp : p.block < n₀) : Row w' p xs :=
  ⟨Nat.lt_of_lt_of_le h.1 k.size, fun j x hx => (Below.cell k (by rw [block_of_add]; exact hp)).trans (h.2 j x hx)⟩
theorem blk_putObj {W : World} {g l : Nat} {t : TypeId} {cs : Array Value} {o : Obj} (o' : Obj) (h : Blk W g t cs) (hl : W.heap[l]? = some o) (ho : o.isCells = false) : Blk (W.putObj l o') g t cs := by
  have hne : g ≠ l := fun e => by
    subst e
    unfold Blk at h
    rw [h] at hl
    cases hl
    cases ho
  exact (World.putObj_heap_other hne).trans h
theorem blk_of {W : World} {B : Nat} {t : TypeId} {v : Value} (h : Boxed W B t v) : Blk W B t #[v] := h
theorem Blk.ne_type {W : World} {g g' : Nat} {t t' : TypeId} {cs cs' : Array Value} (h : Blk W g t cs) (h' : Blk W g' t' cs') (ht : t ≠ t') : g ≠ g' := fun e => by
  subst e
  unfold Blk at h h'
  rw [h] at h'
  injection h' with h'
  injection h' with _ h'
  exact ht h'
/-- Behind an append. -/
theorem blk_app {W w1 : World} {n₀ B : Nat} {t e t' : TypeId} {size k g : Nat} {v v' : Value} {xs : List Value} {tmp : Obj} {cs : Array Value}
    (hv : Boxed W B t v) (hv1 : Boxed w1 B t v) (hrow : W.ownsRow n₀ e size v k xs) (hgrow : (W.alloc tmp).grownBy w1 v.ownBlock) (hg : Blk W g t' cs) (h1 : e ≠ t') (h2 : t' ≠ t) : Blk (w1.setCell ⟨B, 0, none⟩ v') g t' cs := by
  have h3 := (hg.alloc tmp).grown hgrow (own_row_ne hrow hg h1)
  exact h3.far (h3.ne_type (blk_of hv1) h2) v'
theorem Up.kf {B : Nat} {a b : World} (h : Up a b) : KeepsFrom B a b := KeepsFrom.of_grownBy h.gb (fun j e => by cases e)
theorem Lo.le {w : World} {n₀ n₁ : Nat} {v : Value} {xs : List Int} (h : Lo w n₀ v xs) (k : n₁ ≤ n₀) : Lo w n₁ v xs :=
  ⟨h.1, h.2.imp id fun ⟨g, cap, cur, h1, h2, r⟩ => ⟨g, cap, cur, h1, Nat.le_trans k h2, r⟩⟩
theorem take_snoc' {xs : List Int} {x : Nat} (h : x < xs.length) : xs.take (x + 1) = xs.take x ++ [xs.getD x 0] := by
  rw [List.take_succ_eq_append_getElem h]
  simp [List.getD, List.getElem?_eq_getElem h]
theorem law64 : Keyed Try.prog 23 := int_keyed Try.underlying23
theorem zeroS (w : World) : (zeroValue 50).run Try.prog w = .ok (.agg #[]) w := by kernel_rfl
theorem wf_of_u64 {a : Int} (h : U64 a) : (Lit.int .u64 a).wf = true := by
  have e : IntKind.u64.min = 0 := by decide
  have e2 : IntKind.u64.max = 18446744073709551615 := by decide
  simp [Lit.wf, e, e2]
  exact h
theorem key_of {a : Int} (h : U64 a) : keyOf Try.prog 23 (.int .u64 a) = some (.int .u64 a) := keyOf_int_mk Try.underlying23 (wf_of_u64 h)
/-- A set of addresses. -/
def setD (out : List Int) : DataW Unit := setOf (.agg []) (out.map (Lit.int .u64))
theorem setD_snoc (out : List Int) (a : Int) : setD (out ++ [a]) = (setD out).put (.int .u64 a) (.agg []) := by
  unfold setD
  rw [List.map_append]
  exact setOf_snoc _ _ _
theorem setD_has (out : List Int) (a : Int) : Maps.has (setD out) (.int .u64 a) = decide (a ∈ out) := by
  unfold setD
  rw [has_setOf]
  · induction out with
    | nil => simp
    | cons b r ih =>
      have hk : (Lit.int .u64 b).sameKey (Lit.int .u64 a) = decide (b = a) := by simp [Lit.sameKey]
      rw [List.map_cons, List.any_cons, ih, hk]
      by_cases h : b = a
      · subst h; simp
      · have : ¬ a = b := fun q => h q.symm
        simp [h, this]
  · intro x hx
    obtain ⟨y, _, rfl⟩ := List.mem_map.1 hx
    trivial
theorem boxed_one {A : World} {B : Nat} {t : TypeId} {v v' : Value} (h : Boxed A B t v) (k : Boxed A B t v') : v = v' := by
  unfold Boxed at h k
  rw [h] at k
  injection k with k
  injection k with k
  simpa using k
theorem lt_of_get {A : World} {k : Nat} {o : Obj} (h : A.heap[k]? = some o) : k < A.heap.size := (Array.getElem?_eq_some_iff.1 h).1
theorem kf_mono {B B' : Nat} {w w' : World} (h : KeepsFrom B w w') (k : B ≤ B') : KeepsFrom B' w w' := ⟨h.size, fun i o hi => h.same i o (Nat.le_trans k hi)⟩
theorem nodup_snoc {l : List Int} {a : Int} (h : l.Nodup) (k : a ∉ l) : (l ++ [a]).Nodup := by
  rw [List.nodup_append]
  exact ⟨h, by simp, fun x hx y hy => by rw [List.mem_singleton.1 hy]; exact fun e => k (e ▸ hx)⟩
theorem own_ne_obj {w : World} {n₀ Bp : Nat} {v : Value} {xs : List Int} (h : Lo w n₀ v xs) (ho : ∃ o, w.heap[Bp]? = some o ∧ o.isCells = false) : v.ownBlock = none ∨ v.ownBlock ≠ some Bp := by
  refine .inr (fun e => ?_)
  obtain ⟨o, ho, hc⟩ := ho
  rcases h.2 with ⟨rfl, _⟩ | ⟨g, cap, cur, rfl, _, hg, _⟩
  · simp [Value.ownBlock] at e
  · obtain rfl : g = Bp := by simpa [Value.ownBlock] using e
    rw [hg] at ho
    cases ho
    cases hc
/-- A map's first entry, where it is made. -/
theorem wpListIn_insert_own {H : Type} {F : Fence} {nF : Nat} {P : Program} (w : World) {ops : Array Oper} {rest : List Oper} {o : Oper} {a : Act} {Q : Exit → Act → World → Prop}
    (hg : o.guard = none) (m x v : Operand) (t : TypeId) (hop : o.op = Op.insert t m x v)
    (k e : TypeId) (K : Keyed P k) (ht : P.underlying t = some (.map k e)) (R : Value → Option (DataW H × List MemPlace)) (b n : Nat) (D : DataW H)
    (hm : a.eval m = .map (some b)) (hown : w.ownsMap P k R b n D) (hn : n < maxLen) (key val : Value) (kl : Lit) (hx : a.eval x = key) (hv : a.eval v = val) (hkey : keyOf P k key = some kl)
    (d : DataW H) (ps : List MemPlace) (hval : R val = some (d, ps))
    (hK : ∀ w', w'.ownsMap P k R b (n + 1) (D.put kl d) → w.grownBy w' (some b) → wpListIn F nF P ops Q rest (a.put o.dst undef) w') :
    wpListIn F nF P ops Q (o :: rest) a w := by
  refine wpListIn_plain hg fun K' hK' => ?_
  obtain ⟨w', hrun, r1, r2⟩ := hown.update K ht hn hkey hval
  unfold Oper.wpIn
  refine ⟨by simp [Oper.about, hop], ?_⟩
  rw [Oper.semAt_plain F _ _ (by rw [hop]; intro c hc'; cases hc')]
  simp [execOp, hop, hm, hx, hv, hrun, Result.andThen]
  exact hK' _ _ (hK w' r1 r2)
/-- Marks of loops over functions are taken up, one by one. -/
def marks (ds : List Nat) : List Deferred := ds.map fun D => { target := .collected D, args := #[] }
theorem leaves_marks {F : Fence} {n : Nat} {P : Program} {fn : Func} {tmps : Array Value} {R : Ending → World → Prop} (J : World → Prop) (B : Nat)
    (hJ : OwnFrom B (fun (_ : Unit) W => J W)) (fin : ∀ W, J W → LeavesInM F n P fn tmps R [] .returning W) :
    ∀ (ds : List Nat) (W : World), ds.Nodup → (∀ D ∈ ds, B ≤ D ∧ W.heap[D]? = some (.deferred (some []))) → J W → LeavesInM F n P fn tmps R (marks ds) .returning W
  | [], W, _, _, h => fin W h
  | D :: ds, W, hn, hd, h => by
    obtain ⟨hB, hD⟩ := hd D (by simp)
    refine ⟨by simp, .inl ⟨_, _, rfl, run_takeDeferred hD, leaves_marks J B hJ fin ds _ (List.nodup_cons.1 hn).2 (fun E hE => ?_) (hJ.putObj (s := ()) _ h hB hD rfl)⟩⟩
    have hne : E ≠ D := fun e => (List.nodup_cons.1 hn).1 (e ▸ hE)
    exact ⟨(hd E (by simp [hE])).1, (World.putObj_heap_other hne).trans (hd E (by simp [hE])).2⟩
theorem lo_keep {w w' : World} {n₀ : Nat} {v : Value} {xs : List Int} (h : Lo w n₀ v xs) {row : Option Nat} (hg : w.grownBy w' row) (hr : ∀ r, row = some r → ∃ o : Obj, w.heap[r]? = some o ∧ o.isCells = false) : Lo w' n₀ v xs := by
  refine World.ownsRow.kept h hg ?_
  cases e : row with
  | none =>
    cases e2 : v.ownBlock with
    | none => exact .inl rfl
    | some g => exact .inr (by simp)
  | some r => exact own_ne_obj h (hr r e)
theorem blk_keep {w w' : World} {g : Nat} {t : TypeId} {cs : Array Value} (h : Blk w g t cs) {row : Option Nat} (hg : w.grownBy w' row) (hr : ∀ r, row = some r → ∃ o : Obj, w.heap[r]? = some o ∧ o.isCells = false) : Blk w' g t cs :=
  h.grown hg (fun e => by
    obtain ⟨o, ho, hc⟩ := hr g e.symm
    unfold Blk at h
    rw [h] at ho
    cases ho
    cases hc)
theorem Lo.rd {w : World} {n₀ : Nat} {A : Option Addr} {k cap : Nat} {xs : List Int} (h : Lo w n₀ (.slice A k cap) xs) : Rd w A k xs := by
  obtain ⟨A', cap', e, _, _, hr⟩ := h.sl
  injection e with e1 e2 e3
  subst e1
  subst e2
  exact hr
/-- All cells are kept. -/
def KpA (n₀ : Nat) (A B : World) : Prop := Below n₀ A B ∧ ∀ g t cs, Blk A g t cs → Blk B g t cs
theorem KpA.t {n₀ : Nat} {A B C : World} (h : KpA n₀ A B) (k : KpA n₀ B C) : KpA n₀ A C := ⟨h.1.trans k.1, fun g t cs hb => k.2 g t cs (h.2 g t cs hb)⟩
theorem KpA.b {n₀ : Nat} {w : World} (hn : n₀ ≤ w.heap.size) (W : World) (l : Nat) (o o' : Obj) (hl : w.heap.size ≤ l) (h : W.heap[l]? = some o) (h1 : o.isCells = false) (h2 : o.isWalk = false) : KpA n₀ W (W.putObj l o') :=
  ⟨belowK_b hn W l o o' hl h h1 h2, fun g t cs hb => blk_putObj o' hb h h1⟩
theorem KpA.up {n₀ : Nat} {A B : World} (h : Up A B) (hn : n₀ ≤ A.heap.size) : KpA n₀ A B := ⟨h.bel hn, fun g t cs hb => hb.up h⟩
def Bool1 (w : World) (b : Bool) (e : Ending) (w' : World) : Prop := e = .returned (.bool b) ∧ Up w w'
theorem mem_take_snoc {xs : List Int} {x : Nat} {a : Int} (h : x < xs.length) : a ∈ xs.take (x + 1) ↔ a ∈ xs.take x ∨ a = xs.getD x 0 := by
  rw [take_snoc' h]
  simp
set_option maxHeartbeats 1000000 in
theorem rhas_any (A : Option Addr) (k cap : Nat) (xs : List Int) (a : Int) (w : World) (hx : Rd w A k xs) (hk : k ≤ maxLen) :
    Calls Try.prog 26 #[.slice A k cap, .int .u64 a] w fun e w' => e = .returned (.bool (decide (a ∈ xs))) ∧ w = w' := by
  have HX := Lib.hid hx
  have Lx := Lib.hid hx.1
  unfold maxLen at hk
  generalize hB : decide (a ∈ xs) = bo
  have HB := Lib.hid hB
  clear hx hB
  go_enter Try.func26, Try.ntmps26
  go_wp2
  go_loop [5] (fun i => ∃ x : Nat, x ≤ k ∧ i = .int .i64 x ∧ a ∉ xs.take x) (fun i => k - (intOf i).toNat)
  case atStart => exact ⟨0, Nat.zero_le _, rfl, by simp⟩
  case round =>
    obtain ⟨x, hxk, rfl, hni⟩ := hrel
    have HN := Lib.hid hni
    clear hni
    by_cases hlt : x < k
    · obtain ⟨p, rfl, hcp⟩ := HX.out.at_ hlt
      have hlx : x < xs.length := by rw [Lx.out]; exact hlt
      have M := Lib.hid (mem_take_snoc (a := a) hlx)
      by_cases he : xs.getD x 0 = a
      · have HT : Hid (a ∈ xs) := Lib.hid (List.mem_of_mem_take (M.out.2 (.inr he.symm)))
        have hb : (xs.getD x 0 == a) = true := beq_iff_eq.2 he
        generalize xs.getD x 0 = b at hcp hb
        clear he M
        go_wp2
        go_ret
        exact ⟨by rw [← HB.out, decide_eq_true HT.out]; rfl, rfl⟩
      · have HT : Hid (a ∉ xs.take (x + 1)) := Lib.hid (fun q => by
          rcases M.out.1 q with q | q
          · exact HN.out q
          · exact he q.symm)
        have hb : (xs.getD x 0 == a) = false := beq_eq_false_iff_ne.2 he
        generalize xs.getD x 0 = b at hcp hb
        clear he M
        go_wp2
        go_round
        case rel => exact ⟨x + 1, by omega, by go_num, HT.out⟩
        case measure => simp [intOf]; omega
    · obtain rfl : x = k := by omega
      go_wp2
      go_ret
      have h := HN.out
      rw [List.take_of_length_le (by rw [Lx.out]; exact Nat.le_refl _)] at h
      exact ⟨by rw [← HB.out, decide_eq_false h]; rfl, rfl⟩
theorem Rd.take {w : World} {A : Option Addr} {n k : Nat} {xs : List Int} (h : Rd w A n xs) (hk : k ≤ n) : Rd w A k (xs.take k) := by
  have hl := h.1
  refine ⟨by rw [List.length_take]; omega, fun hk0 => ?_⟩
  obtain ⟨p, e, hr⟩ := h.2 (by omega)
  exact ⟨p, e, hr.1, fun j x hx => by
    rw [List.getElem?_take] at hx
    split at hx
    · exact hr.2 j x hx
    · cases hx⟩
/-- A row of words comes. -/
def Rows1 (w : World) (xs : List Int) (e : Ending) (w' : World) : Prop := ∃ v, e = .returned v ∧ Lo w' w.heap.size v xs ∧ Up w w'
theorem rd_two {w : World} {n₀ : Nat} {v : Value} {x y : Int} (h : Lo w n₀ v [x, y]) : ∃ g cap, v = .slice (some ⟨g, 0, none⟩) 2 cap ∧ Row w ⟨g, 0, none⟩ [x, y] := by
  obtain ⟨g, cap, rfl⟩ := ownsRow_succ (k := 1) h
  have hr := h.rd.2 (by simp)
  obtain ⟨p, e, hw⟩ := hr
  cases e
  exact ⟨g, cap, rfl, hw⟩
theorem rd_one {w : World} {n₀ : Nat} {v : Value} {x : Int} (h : Lo w n₀ v [x]) : ∃ g cap, v = .slice (some ⟨g, 0, none⟩) 1 cap ∧ Row w ⟨g, 0, none⟩ [x] := by
  obtain ⟨g, cap, rfl⟩ := ownsRow_succ (k := 0) h
  have hr := h.rd.2 (by simp)
  obtain ⟨p, e, hw⟩ := hr
  cases e
  exact ⟨g, cap, rfl, hw⟩
theorem lo_empty {V : World} {g n₀ : Nat} (h : Blk V g 23 #[]) (hb : n₀ ≤ g) : Lo V n₀ (.slice (some ⟨g, 0, none⟩) 0 0) [] := ⟨rfl, .inr ⟨g, 0, #[], rfl, hb, h, Nat.le_refl _, Nat.zero_le _, rfl, rfl⟩⟩
theorem Lo.nil_sl {w : World} {n₀ : Nat} {v : Value} (h : Lo w n₀ v []) : ∃ A cap, v = .slice A 0 cap := by
  obtain ⟨A, cap, e, _⟩ := h.sl
  exact ⟨A, cap, e⟩
theorem laid : laidOutB Try.prog = true := by kernel_rfl
theorem cells_int : Try.prog.cellsOf 3 = 1 := by kernel_rfl
theorem cells_u64 : Try.prog.cellsOf 23 = 1 := by kernel_rfl
theorem cells_words : Try.prog.cellsOf 22 = 1 := by kernel_rfl
/-- A slice that was handed in: its words. -/
def SlOk (w : World) (A : Option Addr) (n c : Nat) (xs : List Int) : Prop := Rd w A n xs ∧ n ≤ c ∧ c ≤ maxLen ∧ ∀ x ∈ xs, U64 x
theorem lt_of_cell {w : World} {a : Addr} {v : Value} (h : w.cell? a = some v) : a.block < w.heap.size := by
  rcases Nat.lt_or_ge a.block w.heap.size with hlt | hge
  · exact hlt
  · unfold World.cell? at h
    rw [Array.getElem?_eq_none hge] at h
    cases h
section
variable {H : Type} {enc : TypeId × Value → H} {w : World}
theorem words_open {fuel : Nat} {v : Value} {x : DataW H × List MemPlace} (h : DataW.trod enc Try.prog w 0 (fun _ => true) true fuel 22 [v] = some x) : ∃ A n c xs, v = .slice A n c ∧ SlOk w A n c xs := by
  rcases open_slice1 Try.underlying22 cells_u64 h with ⟨h0, _⟩ | ⟨a, len, cap, m, n, V, D, Pl, hcs, hb, hl, hm, hmm, _, hi⟩
  · simp only [List.cons.injEq, and_true] at h0
    exact ⟨none, 0, 0, [], h0, ⟨rfl, fun k => absurd k (by omega)⟩, Nat.le_refl _, Nat.zero_le _, fun x hx => by cases hx⟩
  · simp only [List.cons.injEq, and_true] at hcs
    simp only [if_true] at hmm
    subst hmm
    have hz : ∀ i, i < m → ∃ z : Int, w.cell? (a.add i) = some (.int .u64 z) ∧ U64 z := by
      intro i him
      obtain ⟨h1, h2⟩ := hi i him
      obtain ⟨z, e, _, hw⟩ := DataW.trod_int Try.underlying23 h2
      simp only [List.cons.injEq, and_true] at e
      exact ⟨z, by rw [h1, e], nn_of_wf hw, hi_of_wf hw⟩
    obtain ⟨Z, hZ⟩ := choose_lt (α := Int) (p := fun i z => w.cell? (a.add i) = some (.int .u64 z) ∧ U64 z) hz
    refine ⟨some a, len, m, (List.range len).map Z, hcs, ⟨by simp, fun hn => ⟨a, rfl, ?_, ?_⟩⟩, hl, hm, ?_⟩
    · have := lt_of_cell (hZ 0 (by omega)).1
      rwa [block_of_add] at this
    · intro j x hx
      simp only [List.getElem?_map, Option.map_eq_some_iff] at hx
      obtain ⟨i, hi', rfl⟩ := hx
      have hj : j < len := by
        rcases Nat.lt_or_ge j len with q | q
        · exact q
        · rw [List.getElem?_eq_none (by simpa using q)] at hi'; cases hi'
      rw [List.getElem?_range hj] at hi'
      simp only [Option.some.injEq] at hi'
      subst hi'
      exact (hZ j (by omega)).1
    · intro x hx
      simp only [List.mem_map, List.mem_range] at hx
      obtain ⟨i, hi', rfl⟩ := hx
      exact (hZ i (by omega)).2
theorem int_open {fuel : Nat} {v : Value} {x : DataW H × List MemPlace} (h : DataW.trod enc Try.prog w 0 (fun _ => true) true fuel 3 [v] = some x) : ∃ n : Int, v = .int .i64 n ∧ I64 n := by
  obtain ⟨n, e, _, hw⟩ := DataW.trod_int Try.underlying3 h
  simp only [List.cons.injEq, and_true] at e
  exact ⟨n, e, i64_of_wf hw⟩
theorem u64_open {fuel : Nat} {v : Value} {x : DataW H × List MemPlace} (h : DataW.trod enc Try.prog w 0 (fun _ => true) true fuel 23 [v] = some x) : ∃ n : Int, v = .int .u64 n ∧ U64 n := by
  obtain ⟨n, e, _, hw⟩ := DataW.trod_int Try.underlying23 h
  simp only [List.cons.injEq, and_true] at e
  exact ⟨n, e, nn_of_wf hw, hi_of_wf hw⟩
end
/-- The last step, in general: old memory is as it was (marks of new blocks may be others). -/
theorem post_below {H : Type} {enc : TypeId × Value → H} {P : Program} {f : Func} {s : ChangeSpec} {apart fresh handsOn again : Bool} {W W' : World} {args : Array Value} {v : Value} {ds gs : List (DataW H)} {before pa pv : List MemPlace}
    (hW : DataW.Whole enc P f.params.toList s.vars apart W args.toList ds gs before)
    (hres : ∀ (b : Nat) (sp : Nat → Bool) (hd : Bool), DataW.TrodAll enc P W' b sp hd f.resultTypes.toList (v.resultList f.resultTypes.size) (s.fn H (ds ++ gs)).results [])
    (hargs : ∀ sp : Nat → Bool, (∀ p ∈ before, sp p.block = true) → DataW.TrodAll enc P W' 0 sp true f.params.toList args.toList (s.fn H (ds ++ gs)).args pa)
    (hvars : ∀ sp : Nat → Bool, (∀ p ∈ before, sp p.block = true) → DataW.TrodVars enc P W' sp s.vars (s.fn H (ds ++ gs)).vars pv)
    (hps : before = pa ++ pv) (hb : Up W W')
    (hok : ∀ (j : Nat) (t : TypeId) (r : Value), f.resultTypes[j]? = some t → (v.resultList f.resultTypes.size)[j]? = some r → Value.okWide P W' .any 0 t r) :
    s.post enc P f apart fresh handsOn again W args v W' := by
  have hlt : ∀ p ∈ before, p.block < W.heap.size := fun p hp => hW.lt p hp
  have hold : ∀ p ∈ before, (fun b => decide (b < W.heap.size)) p.block = true := fun p hp => by simpa using hlt p hp
  refine ⟨ds, gs, before, [], pa, pv, hW, hres _ _ _, hargs _ hold, hvars _ hold, World.keptBut_mono (fun p hp => ⟨hp, ?_⟩) (Below.frame hb (· ∈ before)), fun _ => ?_⟩
  · rw [hps, List.mem_append] at hp
    exact .inr hp
  obtain ⟨_, _, _, _, _, hz, hn⟩ := hW
  refine ⟨hok, _, _, ([] ++ pa) ++ pv, ⟨[] ++ pa, pv, trodAll_append (hargs _ (fun _ _ => rfl)) (hres _ _ _), hvars _ (fun _ _ => rfl), rfl, ?_, ?_⟩, ?_⟩
  · intro b off hp
    have hin : MemPlace.cell b off ∈ before := by rw [hps]; simpa using hp
    rw [Below.frozen hb (hlt _ hin)]
    exact hz b off hin
  · intro ha
    have := hn ha
    rw [hps] at this
    simpa using this
  · intro p hp _
    rw [hps]
    simpa using hp
/-- An argument reads behind the call as it read before. -/
theorem trod_keeps {H : Type} {enc : TypeId × Value → H} {t : TypeId} {W W' : World} {v : Value} {d : DataW H} {ps : List MemPlace} {sp : Nat → Bool} (hr : Try.prog.readableRec t = true) (hrow : t < Try.prog.types.size)
    (h : DataW.Trod enc Try.prog W 0 (fun _ => true) true t v d ps) (hb : Up W W') (hlt : ∀ x ∈ ps, x.block < W.heap.size) (hsp : ∀ x ∈ ps, sp x.block = true) : DataW.Trod enc Try.prog W' 0 sp true t v d ps :=
  WideElems.Trod_stays laid hr hrow h (fun x hx => Below.same hb (hlt x hx)) hsp
set_option maxRecDepth 100000 in
theorem words_in {H : Type} {enc : TypeId × Value → H} {w : World} {r : Reach} {b0 : Nat} {v : Value} {d : DataW H} {p : List MemPlace} (hv : Value.okWide Try.prog w r b0 22 v) (h : DataW.Trod enc Try.prog w 0 (fun _ => true) true 22 v d p) :
    ∃ A n c xs, v = .slice A n c ∧ SlOk w A n c xs := by
  obtain ⟨a, len, cap, rfl⟩ := okWide_slice Try.underlying22 hv
  obtain ⟨fuel, hf⟩ := h
  exact words_open hf
end Go.Proofs.Ytpbbbgcafphplaa
