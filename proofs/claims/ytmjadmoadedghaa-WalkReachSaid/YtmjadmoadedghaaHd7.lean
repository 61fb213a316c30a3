/- All fields that are pointers (head.Pointers: the caller of the range over a function): contracts. -/
import Derived.Test.YtmjadmoadedghaaHd6
namespace Go.Proofs.Ytmjadmoadedghaa
open Go.ChangeShapes Go.WideShapes Go.ChangeAt Go.RowKit Go.Shelf
set_option linter.unusedVariables false
set_option linter.unusedSimpArgs false
attribute [local go_sem] Oper.semAt_some

set_option maxHeartbeats 400000 in
theorem seq_any (t l m : Int) (w : World) :
    Calls Try.prog 71 #[hdv t l m] w fun e w' => e = .returned (.func (.func 81) #[] #[.pointer (some ⟨w.heap.size, 0, none⟩)]) ∧ w' = w.alloc (.cells #[.int .i64 t, .int .i64 l, .int .u64 m] 33) := by
  go_enter Try.func71, Try.ntmps71
  go_wp2
  go_ret
  exact ⟨rfl, rfl⟩

theorem info_int : (Try.prog.info? 3).map (fun i => (i.zero, i.size, i.bytes)) = some (some (.int .i64 0), 1, 8) := by kernel_rfl

def pts (l m : Int) : List Nat := fst l m (Lib.bitLen m.toNat)
theorem pts_len (l m : Int) (hm : 0 ≤ m) (hm1 : m ≤ 65535) : (pts l m).length ≤ 16 := by
  have h1 := len_16 m.toNat (by omega)
  have h2 : (pts l m).length ≤ (List.range (Lib.bitLen m.toNat)).length := List.length_filter_le _ _
  rw [List.length_range] at h2
  omega

def Lst (w : World) (xs : List Nat) (e : Ending) (w' : World) : Prop := ∃ v, e = .returned v ∧ w'.ownsRow w.heap.size 3 1 v xs.length (xs.map fun x : Nat => Value.int .i64 x) ∧ Up w w'

/-- What a round keeps: what lay below, and the head's own box. -/
def KpP (n₀ Bn : Nat) (A B : World) : Prop := Below n₀ A B ∧ B.heap[Bn]? = A.heap[Bn]?
theorem KpP.t {n₀ Bn : Nat} {A B C : World} (h : KpP n₀ Bn A B) (k : KpP n₀ Bn B C) : KpP n₀ Bn A C := ⟨h.1.trans k.1, k.2.trans h.2⟩
theorem KpP.b {n₀ Bn : Nat} {w : World} (hn : n₀ ≤ w.heap.size) (hB : Bn < w.heap.size) (W : World) (l : Nat) (o o' : Obj) (hl : w.heap.size ≤ l) (h : W.heap[l]? = some o) (h1 : o.isCells = false) (h2 : o.isWalk = false) : KpP n₀ Bn W (W.putObj l o') :=
  ⟨belowK_b hn W l o o' hl h h1 h2, World.putObj_heap_other (by omega)⟩
theorem own_blkF {β : Type} (B g : Nat) (t : TypeId) (cs : Array Value) : OwnFrom (β := β) B (fun _ W => Blk W g t cs) := fun s W W' row hs hg hr =>
  hs.grown hg (fun e => by
    obtain ⟨-, o, ho, hc⟩ := hr g e.symm
    unfold Blk at hs
    rw [hs] at ho
    cases ho
    cases hc)
theorem own_row_ne {w : World} {base : Nat} {e t : TypeId} {size n g : Nat} {v : Value} {xs : List Value} {cs : Array Value} (h : w.ownsRow base e size v n xs) (hg : Blk w g t cs) (hne : e ≠ t) : some g ≠ v.ownBlock := by
  rcases h.2 with ⟨rfl, _⟩ | ⟨g', cap, cur, rfl, _, hh, _⟩
  · simp [Value.ownBlock]
  · intro he
    have : g = g' := by simpa [Value.ownBlock] using he
    subst this
    unfold Blk at hg
    rw [hg] at hh
    injection hh with hh
    injection hh with _ ht
    exact hne ht.symm

set_option maxRecDepth 100000 in
set_option maxHeartbeats 2000000 in
theorem ptrs_any (t lo m : Int) (hm : 0 ≤ m) (hm1 : m ≤ 65535) (w : World) : Calls Try.prog 57 #[hdv t lo m] w (Lst w (pts lo m)) := by
  have hlen := pts_len lo m hm hm1
  obtain ⟨i0, hi, hz0, hz1, hz2⟩ := info_parts info_int
  refine (callsIn_wide (n := 5)).1 ?_
  refine callsIn_of_wp_marks Try.func57 rfl trivial ?_ rfl
  simp only [Try.ntmps57, List.size_toArray, List.length_cons, List.length_nil, Nat.reduceAdd, Nat.reduceSub, Array.replicate_succ, Array.replicate_zero, List.push_toArray, List.append_toArray, List.nil_append, List.cons_append]
  gi_wp2_with (refine ⟨trivial, ?_⟩; gi_at_call 71; refine (callsIn_wide.2 (seq_any t lo m _)).mono ?_; rintro e w' ⟨rfl, rfl⟩)
  have bO := Boxed.new (w.alloc (.cells #[.int .i64 t, .int .i64 lo, .int .u64 m] 33)) 77 (.slice none 0 0)
  rw [World.size_alloc] at bO
  have bH := Blk.new ((w.alloc (.cells #[.int .i64 t, .int .i64 lo, .int .u64 m] 33)).alloc (.cells #[.slice none 0 0] 77)) 33 #[.int .i64 t, .int .i64 lo, .int .u64 m]
  rw [World.size_alloc, World.size_alloc] at bH
  have hB0 : Below w.heap.size w (((w.alloc (.cells #[.int .i64 t, .int .i64 lo, .int .u64 m] 33)).alloc (.cells #[.slice none 0 0] 77)).alloc (.cells #[.int .i64 t, .int .i64 lo, .int .u64 m] 33)) := (((Up.refl w).alloc _).alloc _).alloc _
  refine wpIn_rangeFunc_ownG rfl (by decide) (gf := 81) (lb := #[.pointer (some ⟨w.heap.size + 1 + 1, 0, none⟩)]) rfl trivial (enters_of Try.func81 (by kernel_rfl) rfl)
    (it_stops 4 (by decide) (w.heap.size + 1 + 1) t lo m hm hm1 _ (KpP w.heap.size (w.heap.size + 1 + 1)) (fun A B k h => k.2.trans h) bH) KpP.t (KpP.b (by simp; omega) (by simp)) (Below.refl _ _) (fun _ => rfl)
    (fun pre W => (∃ v, Boxed W (w.heap.size + 1) 77 v ∧ W.ownsRow w.heap.size 3 1 v pre.length (pre.map fun x : Nat => Value.int .i64 x) ∧ True) ∧ Blk W (w.heap.size + 1 + 1) 33 #[.int .i64 t, .int .i64 lo, .int .u64 m] ∧ Below w.heap.size w W)
    (fun _ _ _ => False)
    (OwnFrom.and (Own.from (holdsRow_own w.heap.size (w.heap.size + 1) 77 3 1 (fun pre : List Nat => pre.length) (fun pre : List Nat => pre.map fun x : Nat => Value.int .i64 x) (fun (_ : List Nat) (_ : Value) => True)) _) (OwnFrom.and (own_blkF _ _ _ _) (ownFrom_below (Nat.le_refl _) (by simp; omega))))
    (fun _ _ _ _ _ hs _ _ => hs)
    ⟨⟨_, bO.alloc _, World.ownsRow_nil _ _ _ _, trivial⟩, bH, hB0⟩
    (fun x => { tmps := #[hdv t lo m, .pointer (some ⟨w.heap.size, 0, none⟩), .slice none 0 0, .pointer (some ⟨w.heap.size + 1, 0, none⟩), .int .i64 x, .agg #[.int .i64 t, .int .i64 lo, .int .u64 m], .func (.func 81) #[] #[.pointer (some ⟨w.heap.size + 1 + 1, 0, none⟩)], .int .i64 x, undef, undef, undef, undef, undef], defers := [] }) ?assign ?body ?done ?stop
  case assign =>
    intro l x W K hK
    gi_wp2
    exact hK
  case body =>
    rintro l pre x W ⟨⟨v, hv, hrow, -⟩, hH, hB⟩ hlt
    have hlt : pre.length < 16 := Nat.lt_of_lt_of_le hlt hlen
    have hc := hv.cell
    gi_wp2_with (gi_at_builtin; refine wpListIn_append_own _ rfl _ _ 77 rfl w.heap.size 3 i0 (.int .i64 0) 1 8 Try.underlying77 hi hz0 hz1 hz2 rfl (by decide) _ _ _ rfl (hrow.alloc _) ⟨W.heap.size, 0, none⟩ 1 1 [.int .i64 x] rfl rfl (cell_one_new _ _ _) (by simp [Value.oneCell']) (by unfold maxLen; omega) (by omega) (by have := hB.size; simp; omega) ?_; intro v' w1 hown' hgrow _; obtain ⟨g', cap', rfl⟩ := ownsRow_succ hown'; obtain ⟨hv1, hv2, hr2, hk2, hb2⟩ := hv.appended (by decide) hrow hB.size (by omega) hown' hgrow; have hc1 := hv1.cell; have hf1 := hv1.frozen)
    have hH2 := ((hH.alloc _).grown hgrow (own_row_ne hrow hH (by decide))).far (p := ⟨w.heap.size + 1, 0, none⟩) (by simp) (.slice (some ⟨g', 0, none⟩) (pre.length + 1) cap')
    exact ⟨hk2.from _, ⟨hb2, hH2.trans hH.symm⟩, ⟨_, hv2, by simpa using hr2, trivial⟩, hH2, hB.trans hb2⟩
  case done =>
    rintro D ys W hD rfl ⟨⟨v, hv, hrow, -⟩, hH, hB⟩ hK
    have hc := hv.cell
    gi_wp2
    refine ⟨by simp, .inl ⟨_, _, rfl, run_takeDeferred hK, ?_⟩⟩
    exact ⟨_, results_tmp rfl _ _ _, v, rfl, ownsRow_putObj hrow _ hK rfl, hB.trans (belowK_b (w := w) (Nat.le_refl _) W D _ _ (by simp at hD; omega) hK rfl rfl)⟩
  case stop =>
    rintro D c pre W _ _ h _
    exact h.elim
end Go.Proofs.Ytmjadmoadedghaa
