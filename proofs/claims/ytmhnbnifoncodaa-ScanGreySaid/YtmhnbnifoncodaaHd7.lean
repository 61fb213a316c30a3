/- All fields that are pointers (head.Pointers: a range over a function): contracts. All fields that are pointers (head.Pointers: a range over a function): contracts. All fields that are pointers (head.Pointers: the caller of the range over a function): contracts. -/
import Derived.Test.YtmhnbnifoncodaaHd4
import Derived.RangeFuncBox
import Derived.RangeFuncNested
import Derived.RangeFuncBound
import Derived.RangeFuncCalls
import Derived.RangeFuncLeaves
import Derived.Shelf.Abstract
import Derived.OwnWalkIn
import Derived.TacticsInMore
import Derived.LoopNIn
import Derived.LoopIn
import Derived.Maps.AppendAt
import Derived.Lib.Strings
import Derived.Lib.Slices
import Derived.Lib.Small
import Derived.Lib.Walk
import Derived.Lib.BitFns
namespace Go.Proofs.Ytmhnbnifoncodaa
open Go.ChangeShapes Go.WideShapes Go.ChangeAt Go.RowKit
set_option linter.unusedVariables false
set_option linter.unusedSimpArgs false

theorem tab_at' : ∀ n : Fin 256, (Lib.len8 (n.val : Int)) = (Lib.bitLen n.val : Int) := Lib.len8_eq
theorem tab_at (x : Int) (h0 : 0 ≤ x) (h1 : x ≤ 255) (h : x.toNat < Lib.len8tab.size) : ((Lib.len8tab[x.toNat]'h).toNat : Int) = (Lib.bitLen x.toNat : Int) := by
  have e := Lib.len8_of x h0 h1
  unfold Lib.len8 at e
  rw [ByteArray.getElem?_lt' _ _ h] at e
  exact e
theorem w64_nat (n : Nat) (h : n ≤ 1000) : wrap64 (n : Int) = n := by unfold wrap64; omega

set_option maxHeartbeats 400000 in
set_option maxRecDepth 100000 in
/-- How many bits a small number has. -/
theorem len_any (x : Int) (w : World) (h0 : 0 ≤ x) (h1 : x ≤ 65535) :
    Calls Try.prog 91 #[.int .u64 x] w fun e w' => e = .returned (.int .i64 (Lib.bitLen x.toNat)) ∧ w = w' := by
  by_cases c : x < 256
  · have hz : x < (Lib.len8tab.size : Int) := by rw [Lib.len8tab_size]; omega
    have ht : x.toNat < Lib.len8tab.size := by omega
    have T := Lib.hid (tab_at x h0 (by omega) ht)
    have l := Lib.hid (Lib.bitLen_le8' x h0 (by omega))
    go_enter Try.func91, Try.ntmps91
    go_wp2
    go_ret
    have l := l.out
    exact ⟨ret_int (by rw [T.out, w64_nat _ (by omega), w64_nat _ (by omega)]), rfl⟩
  · have c0 : 256 ≤ x := by omega
    have hx0 : 0 ≤ x / 256 := by omega
    have hz : x / 256 < (Lib.len8tab.size : Int) := by rw [Lib.len8tab_size]; omega
    have ht : (x / 256).toNat < Lib.len8tab.size := by omega
    have T := Lib.hid (tab_at (x / 256) hx0 (by omega) ht)
    have l := Lib.hid (Lib.bitLen_le8' (x / 256) hx0 (by omega))
    have s := Lib.hid (Lib.bitLen_shift8 x.toNat (by omega) (by omega))
    have e : Hid ((x / 256).toNat = x.toNat / 256) := Lib.hid (by omega)
    go_enter Try.func91, Try.ntmps91
    go_wp2
    go_ret
    have l := l.out
    exact ⟨ret_int (by rw [T.out, w64_nat _ (by omega), s.out, ← e.out]; unfold wrap64; omega), rfl⟩
theorem len_16 (n : Nat) (h : n ≤ 65535) : Lib.bitLen n ≤ 16 := Lib.bitLenAux_le 64 n 16 (by omega)
theorem len_lt' : ∀ (f x : Nat), x < 2 ^ f → x < 2 ^ Lib.bitLenAux f x
  | 0, x, h => by simpa [Lib.bitLenAux] using h
  | f + 1, x, h => by
    unfold Lib.bitLenAux
    split
    · subst_vars; simp
    · have := len_lt' f (x / 2) (by rw [Nat.pow_succ] at h; omega)
      rw [Nat.pow_add]
      omega
theorem len_lt (n : Nat) (h : n ≤ 65535) : n < 2 ^ Lib.bitLen n := len_lt' 64 n (by omega)
end Go.Proofs.Ytmhnbnifoncodaa
namespace Go.Proofs.Ytmhnbnifoncodaa
open Go.ChangeShapes Go.WideShapes Go.ChangeAt Go.RowKit Go.Shelf
set_option linter.unusedVariables false
set_option linter.unusedSimpArgs false
attribute [local go_sem] Oper.semAt_some

theorem Up.gb {a b : World} (h : Up a b) : a.grownBy b none := ⟨h.os, h.tape, h.output, h.size, fun i hi _ => h.block i hi⟩
theorem Up.bel {a b : World} {n : Nat} (h : Up a b) (hn : n ≤ a.heap.size) : Below n a b := Below.mono h hn

/-- The first fields that are pointers. -/
def fst (l m : Int) (k : Nat) : List Nat := (List.range k).filter fun i => ptb l m i
theorem fst_yes {l m : Int} {k : Nat} (h : ptb l m k = true) : fst l m (k + 1) = fst l m k ++ [k] := by
  simp [fst, List.range_succ, h]
theorem fst_no {l m : Int} {k : Nat} (h : ptb l m k = false) : fst l m (k + 1) = fst l m k := by
  simp [fst, List.range_succ, h]
theorem fst_pre (l m : Int) (k : Nat) : ∀ n, k ≤ n → fst l m k <+: fst l m n := by
  intro n h
  obtain ⟨d, rfl⟩ := Nat.le.dest h
  induction d with
  | zero => exact List.prefix_rfl
  | succ d ih =>
    refine (ih (by omega)).trans ?_
    rw [← Nat.add_assoc]
    cases hb : ptb l m ((k + d : Nat) : Int)
    · rw [fst_no hb]
      exact List.prefix_rfl
    · rw [fst_yes hb]
      exact List.prefix_append _ _

set_option maxRecDepth 100000 in
set_option maxHeartbeats 1000000 in
theorem it_stops (n : Nat) (hn : 1 ≤ n) (Bn : Nat) (t lo m : Int) (hm : 0 ≤ m) (hm1 : m ≤ 65535) (w : World) (Kp : World → World → Prop)
    (hKp : ∀ A B, Kp A B → Blk A Bn 43 #[.int .i64 t, .int .i64 lo, .int .u64 m] → Blk B Bn 43 #[.int .i64 t, .int .i64 lo, .int .u64 m])
    (hc : Blk w Bn 43 #[.int .i64 t, .int .i64 lo, .int .u64 m]) :
    SeqStopsK Fence.wide n Try.prog 90 #[.pointer (some ⟨Bn, 0, none⟩)] (fun x : Nat => #[Value.int .i64 x]) Kp (fun ys => ys = fst lo m (Lib.bitLen m.toNat)) (fun pre => pre <+: fst lo m (Lib.bitLen m.toNat)) (fst lo m (Lib.bitLen m.toNat)).length w := by
  intro l J Jx W hW hJ hJx hY h0
  have hN := len_16 m.toNat (by omega)
  obtain ⟨N, hNe⟩ : ∃ N, Lib.bitLen m.toNat = N := ⟨_, rfl⟩
  have hl := Lib.hid (fun w => len_any m w hm hm1)
  rw [hNe] at hl hY hN ⊢
  clear hNe
  have D := hc.up hW
  have Dc := D.cell
  refine callsIn_of_wp Try.func90 rfl trivial ?_ rfl
  simp only [Try.ntmps90, List.size_toArray, List.length_cons, List.length_nil, Nat.reduceAdd, Nat.reduceSub, Array.replicate_succ, Array.replicate_zero, List.push_toArray, List.append_toArray, List.nil_append, List.cons_append]
  gi_wp2_with (refine ⟨trivial, ?_⟩; gi_at_call 91; refine (callsIn_wide.2 (hl.out _)).mono ?_; rintro e w' ⟨rfl, rfl⟩)
  clear Dc hl
  gi_loopw [7] (fun i wr => ∃ k : Nat, k ≤ N ∧ i = .int .i64 k ∧ J (fst lo m k) wr ∧ Blk wr Bn 43 #[.int .i64 t, .int .i64 lo, .int .u64 m] ) (fun i _ => N - (intOf i).toNat)
  case atStart => exact ⟨0, Nat.zero_le _, rfl, h0, D⟩
  case round =>
    obtain ⟨k, hk, rfl, hJk, Dk⟩ := hrel
    by_cases hlt : k < N
    · have Dc := Dk.cell
      gi_wp2_with (fail)
      refine ⟨trivial, ?_⟩
      refine (callsIn_wide.2 (ptr_any t lo m k hm (by omega) (by omega) _)).mono ?_
      rintro e w1 ⟨rfl, hg⟩
      have hJ1 := hJ _ _ _ none hJk hg.gb (fun r e => by cases e)
      have D1 := Dk.up hg
      clear Dc Dk hJk
      have hb : ∃ b, ptb lo m k = b := ⟨_, rfl⟩
      obtain ⟨b, hb⟩ := hb
      rw [hb]
      cases b
      · have hf := Lib.hid (fst_no hb)
        clear hb
        gi_wp2_with (fail)
        refine ⟨fun _ h => (by cases h), ?_⟩
        gi_wp2
        go_roundw
        case rel => exact ⟨k + 1, by omega, by go_num, by rw [hf.out]; exact hJ1, D1⟩
        case measure => simp [intOf]; omega
      · have hf := Lib.hid (fst_yes hb)
        have hp := fst_pre lo m (k + 1) N (by omega)
        have hlen : (fst lo m k).length < (fst lo m N).length := by
          have := hp.length_le
          rw [hf.out, List.length_append] at this
          simp at this
          omega
        have hp' : Hid (fst lo m k ++ [k] <+: fst lo m N) := Lib.hid (by rw [← hf.out]; exact hp)
        clear hp
        clear hb
        obtain ⟨fn, tmps, assign, body, hy, hR⟩ := hY (fst lo m k) k w1 hJ1 hlen
        clear hlen
        gi_wp2
        refine hR.mono ?_
        rintro e W3 (⟨rfl, hJ3, hk3⟩ | ⟨rfl, hJx3⟩)
        · gi_wp2
          go_roundw
          case rel => exact ⟨k + 1, by omega, by go_num, by rw [hf.out]; exact hJ3, hKp _ _ hk3 D1⟩
          case measure => simp [intOf]; omega
        · gi_wp2
          refine bodyPost_ret (results_none rfl _ _ _) rfl ?_
          exact ⟨⟨_, rfl⟩, .inr ⟨_, hp'.out, hJx3⟩⟩
    · obtain rfl : k = N := by omega
      gi_wp2
      go_end0
      exact ⟨⟨_, rfl⟩, .inl ⟨_, rfl, hJk⟩⟩
end Go.Proofs.Ytmhnbnifoncodaa
namespace Go.Proofs.Ytmhnbnifoncodaa
open Go.ChangeShapes Go.WideShapes Go.ChangeAt Go.RowKit Go.Shelf
set_option linter.unusedVariables false
set_option linter.unusedSimpArgs false
attribute [local go_sem] Oper.semAt_some

set_option maxHeartbeats 400000 in
theorem seq_any (t l m : Int) (w : World) :
    Calls Try.prog 75 #[hdv t l m] w fun e w' => e = .returned (.func (.func 90) #[] #[.pointer (some ⟨w.heap.size, 0, none⟩)]) ∧ w' = w.alloc (.cells #[.int .i64 t, .int .i64 l, .int .u64 m] 43) := by
  go_enter Try.func75, Try.ntmps75
  go_wp2
  go_ret
  exact ⟨rfl, rfl⟩

theorem info_int : (Try.prog.info? 3).map (fun i => (i.zero, i.size, i.bytes)) = some (some (.int .i64 0), 1, 8) := by kernel_rfl

def pts (l m : Int) : List Nat := fst l m (Lib.bitLen m.toNat)
theorem pts_len (l m : Int) (hm : 0 ≤ m) (hm1 : m ≤ 65535) : (pts l m).length ≤ 16 := by
  have h1 := len_16 m.toNat (by omega)
  have h2 : (pts l m).length ≤ (List.range (Lib.bitLen m.toNat)).length := List.length_filter_le _ _
  rw [List.length_range] at h2
  omega

def Lst (w : World) (xs : List Nat) (e : Ending) (w' : World) : Prop := ∃ v, e = .returned v ∧ w'.ownsRow w.heap.size 3 1 v xs.length (xs.map fun x : Nat => Value.int .i64 x) ∧ Up w w'

/-- What a round keeps: what lay below, and the head's own box. -/
def KpP (n₀ Bn : Nat) (A B : World) : Prop := Below n₀ A B ∧ B.heap[Bn]? = A.heap[Bn]?
theorem KpP.t {n₀ Bn : Nat} {A B C : World} (h : KpP n₀ Bn A B) (k : KpP n₀ Bn B C) : KpP n₀ Bn A C := ⟨h.1.trans k.1, k.2.trans h.2⟩
theorem KpP.b {n₀ Bn : Nat} {w : World} (hn : n₀ ≤ w.heap.size) (hB : Bn < w.heap.size) (W : World) (l : Nat) (o o' : Obj) (hl : w.heap.size ≤ l) (h : W.heap[l]? = some o) (h1 : o.isCells = false) (h2 : o.isWalk = false) : KpP n₀ Bn W (W.putObj l o') :=
  ⟨belowK_b hn W l o o' hl h h1 h2, World.putObj_heap_other (by omega)⟩
theorem own_blkF {β : Type} (B g : Nat) (t : TypeId) (cs : Array Value) : OwnFrom (β := β) B (fun _ W => Blk W g t cs) := fun s W W' row hs hg hr =>
  hs.grown hg (fun e => by
    obtain ⟨-, o, ho, hc⟩ := hr g e.symm
    unfold Blk at hs
    rw [hs] at ho
    cases ho
    cases hc)
theorem own_row_ne {w : World} {base : Nat} {e t : TypeId} {size n g : Nat} {v : Value} {xs : List Value} {cs : Array Value} (h : w.ownsRow base e size v n xs) (hg : Blk w g t cs) (hne : e ≠ t) : some g ≠ v.ownBlock := by
  rcases h.2 with ⟨rfl, _⟩ | ⟨g', cap, cur, rfl, _, hh, _⟩
  · simp [Value.ownBlock]
  · intro he
    have : g = g' := by simpa [Value.ownBlock] using he
    subst this
    unfold Blk at hg
    rw [hg] at hh
    injection hh with hh
    injection hh with _ ht
    exact hne ht.symm

set_option maxRecDepth 100000 in
set_option maxHeartbeats 2000000 in
theorem ptrs_any (t lo m : Int) (hm : 0 ≤ m) (hm1 : m ≤ 65535) (w : World) : Calls Try.prog 42 #[hdv t lo m] w (Lst w (pts lo m)) := by
  have hlen := pts_len lo m hm hm1
  obtain ⟨i0, hi, hz0, hz1, hz2⟩ := info_parts info_int
  refine (callsIn_wide (n := 5)).1 ?_
  refine callsIn_of_wp_marks Try.func42 rfl trivial ?_ rfl
  simp only [Try.ntmps42, List.size_toArray, List.length_cons, List.length_nil, Nat.reduceAdd, Nat.reduceSub, Array.replicate_succ, Array.replicate_zero, List.push_toArray, List.append_toArray, List.nil_append, List.cons_append]
  gi_wp2_with (refine ⟨trivial, ?_⟩; gi_at_call 75; refine (callsIn_wide.2 (seq_any t lo m _)).mono ?_; rintro e w' ⟨rfl, rfl⟩)
  have bO := Boxed.new (w.alloc (.cells #[.int .i64 t, .int .i64 lo, .int .u64 m] 43)) 82 (.slice none 0 0)
  rw [World.size_alloc] at bO
  have bH := Blk.new ((w.alloc (.cells #[.int .i64 t, .int .i64 lo, .int .u64 m] 43)).alloc (.cells #[.slice none 0 0] 82)) 43 #[.int .i64 t, .int .i64 lo, .int .u64 m]
  rw [World.size_alloc, World.size_alloc] at bH
  have hB0 : Below w.heap.size w (((w.alloc (.cells #[.int .i64 t, .int .i64 lo, .int .u64 m] 43)).alloc (.cells #[.slice none 0 0] 82)).alloc (.cells #[.int .i64 t, .int .i64 lo, .int .u64 m] 43)) := (((Up.refl w).alloc _).alloc _).alloc _
  refine wpIn_rangeFunc_ownG rfl (by decide) (gf := 90) (lb := #[.pointer (some ⟨w.heap.size + 1 + 1, 0, none⟩)]) rfl trivial (enters_of Try.func90 (by kernel_rfl) rfl)
    (it_stops 4 (by decide) (w.heap.size + 1 + 1) t lo m hm hm1 _ (KpP w.heap.size (w.heap.size + 1 + 1)) (fun A B k h => k.2.trans h) bH) KpP.t (KpP.b (by simp; omega) (by simp)) (Below.refl _ _) (fun _ => rfl)
    (fun pre W => (∃ v, Boxed W (w.heap.size + 1) 82 v ∧ W.ownsRow w.heap.size 3 1 v pre.length (pre.map fun x : Nat => Value.int .i64 x) ∧ True) ∧ Blk W (w.heap.size + 1 + 1) 43 #[.int .i64 t, .int .i64 lo, .int .u64 m] ∧ Below w.heap.size w W)
    (fun _ _ _ => False)
    (OwnFrom.and (Own.from (holdsRow_own w.heap.size (w.heap.size + 1) 82 3 1 (fun pre : List Nat => pre.length) (fun pre : List Nat => pre.map fun x : Nat => Value.int .i64 x) (fun (_ : List Nat) (_ : Value) => True)) _) (OwnFrom.and (own_blkF _ _ _ _) (ownFrom_below (Nat.le_refl _) (by simp; omega))))
    (fun _ _ _ _ _ hs _ _ => hs)
    ⟨⟨_, bO.alloc _, World.ownsRow_nil _ _ _ _, trivial⟩, bH, hB0⟩
    (fun x => { tmps := #[hdv t lo m, .pointer (some ⟨w.heap.size, 0, none⟩), .slice none 0 0, .pointer (some ⟨w.heap.size + 1, 0, none⟩), .int .i64 x, .agg #[.int .i64 t, .int .i64 lo, .int .u64 m], .func (.func 90) #[] #[.pointer (some ⟨w.heap.size + 1 + 1, 0, none⟩)], .int .i64 x, undef, undef, undef, undef, undef], defers := [] }) ?assign ?body ?done ?stop
  case assign =>
    intro l x W K hK
    gi_wp2
    exact hK
  case body =>
    rintro l pre x W ⟨⟨v, hv, hrow, -⟩, hH, hB⟩ hlt
    have hlt : pre.length < 16 := Nat.lt_of_lt_of_le hlt hlen
    have hc := hv.cell
    gi_wp2_with (gi_at_builtin; refine wpListIn_append_own _ rfl _ _ 82 rfl w.heap.size 3 i0 (.int .i64 0) 1 8 Try.underlying82 hi hz0 hz1 hz2 rfl (by decide) _ _ _ rfl (hrow.alloc _) ⟨W.heap.size, 0, none⟩ 1 1 [.int .i64 x] rfl rfl (cell_one_new _ _ _) (by simp [Value.oneCell']) (by unfold maxLen; omega) (by omega) (by have := hB.size; simp; omega) ?_; intro v' w1 hown' hgrow _; obtain ⟨g', cap', rfl⟩ := ownsRow_succ hown'; obtain ⟨hv1, hv2, hr2, hk2, hb2⟩ := hv.appended (by decide) hrow hB.size (by omega) hown' hgrow; have hc1 := hv1.cell; have hf1 := hv1.frozen)
    have hH2 := ((hH.alloc _).grown hgrow (own_row_ne hrow hH (by decide))).far (p := ⟨w.heap.size + 1, 0, none⟩) (by simp) (.slice (some ⟨g', 0, none⟩) (pre.length + 1) cap')
    exact ⟨hk2.from _, ⟨hb2, hH2.trans hH.symm⟩, ⟨_, hv2, by simpa using hr2, trivial⟩, hH2, hB.trans hb2⟩
  case done =>
    rintro D ys W hD rfl ⟨⟨v, hv, hrow, -⟩, hH, hB⟩ hK
    have hc := hv.cell
    gi_wp2
    refine ⟨by simp, .inl ⟨_, _, rfl, run_takeDeferred hK, ?_⟩⟩
    exact ⟨_, results_tmp rfl _ _ _, v, rfl, ownsRow_putObj hrow _ hK rfl, hB.trans (belowK_b (w := w) (Nat.le_refl _) W D _ _ (by simp at hD; omega) hK rfl rfl)⟩
  case stop =>
    rintro D c pre W _ _ h _
    exact h.elim
end Go.Proofs.Ytmhnbnifoncodaa
