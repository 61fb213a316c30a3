/- Rows of words that are made and copied: plain facts. -/
import Derived.Test.YtgcpkgogjcgfbaaAr2
import Derived.Deep.OwnRows
import Derived.Deep.RegionLaw
import Derived.StillTailTactics
namespace Go.Proofs.Ytgcpkgogjcgfbaa
open Go.ChangeShapes Go.WideShapes Go.ChangeAt Go.RowKit
set_option linter.unusedVariables false
set_option linter.unusedSimpArgs false

/-- A word as a value. -/
def wd (x : Int) : Value := .int .u64 x
def wds (xs : List Int) : List Value := xs.map wd
theorem len_wds (xs : List Int) : (wds xs).length = xs.length := by simp [wds]
theorem one_wds (xs : List Int) : ∀ v ∈ wds xs, v.oneCell' = true := by
  intro v hv
  obtain ⟨x, _, rfl⟩ := List.mem_map.1 hv
  rfl
def zers (n : Nat) : List Int := List.replicate n 0
theorem info_u64 : (Try.prog.info? 44).map (fun i => (i.zero, i.size, i.bytes)) = some (some (.int .u64 0), 1, 8) := by kernel_rfl
theorem size_u64 : (Try.prog.info? 44).map (·.size) = some 1 := by kernel_rfl
theorem made_is (n : Nat) : madeCells #[.int .u64 0] n = (wds (zers n)).toArray := by
  apply Array.ext
  · simp [size_madeCells, len_wds, zers]
  · intro i h1 h2
    simp [madeCells, wds, zers, wd, Nat.mod_one]
theorem make_is (n : Nat) (hn : n ≤ 4096) (w : World) :
    (Instr.makeSlice 22 (.int .i64 (n : Int)) (.int .i64 (n : Int))).run Try.prog w = .ok (.slice (some ⟨w.heap.size, 0, none⟩) n n) (w.alloc (.cells (wds (zers n)).toArray 44)) := by
  have := run_make_row' (P := Try.prog) 22 44 (.int .u64 0) 8 Try.underlying22 info_u64 rfl .i64 .i64 n (by omega) (by omega) w
  rw [made_is] at this
  exact this

theorem add_zero' (g j : Nat) : (⟨g, 0, none⟩ : Addr).add j = ⟨g, j, none⟩ := by unfold Addr.add; split <;> simp_all
/-- A block of words is a row. -/
theorem row_of_blk {w : World} {g : Nat} {t : TypeId} {xs : List Int} (h : w.heap[g]? = some (.cells (wds xs).toArray t (0, 0))) : Row w ⟨g, 0, none⟩ xs := by
  have hlt : g < w.heap.size := by
    rcases Nat.lt_or_ge g w.heap.size with hlt | hge
    · exact hlt
    · rw [Array.getElem?_eq_none hge] at h; cases h
  refine ⟨hlt, fun j x hx => ?_⟩
  rw [add_zero', cell_of_row w g j _ t (0, 0) h]
  simp [wds, hx, wd]
theorem Row.src {w : World} {p : Addr} {xs : List Int} (h : Row w p xs) : ∀ j v, (wds xs)[j]? = some v → w.cell? (p.add j) = some v := by
  intro j v hv
  simp only [wds, List.getElem?_map, Option.map_eq_some_iff] at hv
  obtain ⟨x, hx, rfl⟩ := hv
  exact h.2 j x hx
theorem splice_all (xs ys : List Int) (h : xs.length = ys.length) : splice (wds xs) 0 (wds ys) = wds ys := by
  simp [splice, len_wds, ← h]
theorem splice_wds (xs ys : List Int) (k : Nat) : splice (wds xs) k (wds ys) = wds (splice xs k ys) := by
  simp [splice, wds]
theorem bcell' {B : Nat} {W w1 : World} (hb : Below B W w1) : (∀ b o, b < B → w1.cell? ⟨b, o, none⟩ = W.cell? ⟨b, o, none⟩) ∧ (∀ b o, b < B → w1.frozen? ⟨b, o, none⟩ = W.frozen? ⟨b, o, none⟩) :=
  ⟨fun b o h => Below.cell hb (p := ⟨b, o, none⟩) h, fun b o h => Below.frozen hb (p := ⟨b, o, none⟩) h⟩
/-- A block that is known whole. -/
def Blk (w : World) (g : Nat) (t : TypeId) (cs : Array Value) : Prop := w.heap[g]? = some (.cells cs t (0, 0))
section
variable {w w' : World} {g : Nat} {t : TypeId} {cs : Array Value}
theorem Blk.lt (h : Blk w g t cs) : g < w.heap.size := by
  rcases Nat.lt_or_ge g w.heap.size with hlt | hge
  · exact hlt
  · unfold Blk at h; rw [Array.getElem?_eq_none hge] at h; cases h
theorem Blk.cell (h : Blk w g t cs) (i : Nat) : w.cell? ⟨g, i, none⟩ = cs[i]? := cell_of_row w g i cs t (0, 0) h
theorem Blk.frozen (h : Blk w g t cs) (i : Nat) : w.frozen? ⟨g, i, none⟩ = false := by
  unfold Blk at h
  simp [World.frozen?, h]
theorem Blk.new (w : World) (t : TypeId) (cs : Array Value) : Blk (w.alloc (.cells cs t)) w.heap.size t cs := heap_alloc_new w _
theorem Blk.alloc (h : Blk w g t cs) (o : Obj) : Blk (w.alloc o) g t cs := (Below.heap_alloc w o g h.lt).trans h
theorem Blk.drew (h : Blk w g t cs) : Blk w.drew g t cs := h
theorem Blk.set_ (h : Blk w g t cs) (i : Nat) (u : Value) : Blk (w.setCell ⟨g, i, none⟩ u) g t (cs.setIfInBounds i u) := by
  unfold Blk at h ⊢
  simp [World.setCell, Array.getElem?_modify, h]
theorem Blk.far (h : Blk w g t cs) {p : Addr} (hp : g ≠ p.block) (u : Value) : Blk (w.setCell p u) g t cs := (Below.heap_setCell w p u g hp).trans h
theorem Blk.up (h : Blk w g t cs) (k : Up w w') : Blk w' g t cs := (k.block g h.lt).trans h
theorem Blk.grown {row : Option Nat} (h : Blk w g t cs) (hb : w.grownBy w' row) (hg : some g ≠ row) : Blk w' g t cs := (hb.block g h.lt hg).trans h
theorem Up.grown {a : World} {row : Option Nat} (h : Up a w) (hg : w.grownBy w' row) (hr : ∀ k, row = some k → a.heap.size ≤ k) : Up a w' := Below.grown h hg h.size hr
theorem Blk.row {xs : List Int} (h : Blk w g t (wds xs).toArray) : Row w ⟨g, 0, none⟩ xs := row_of_blk h
end

/-- A row lies in no block that is shorter. -/
theorem Row.apart {w : World} {p : Addr} {xs : List Int} {g : Nat} {t : TypeId} {cs : Array Value} (h : Row w p xs) (hb : Blk w g t cs) (hl : cs.size < xs.length) : p.block ≠ g := by
  intro e
  have hc := h.2 (xs.length - 1) xs[xs.length - 1] (List.getElem?_eq_getElem (by omega))
  unfold Blk at hb
  have ho : cs.size ≤ (p.add (xs.length - 1)).off := by
    unfold Addr.add
    split
    · omega
    · simp; omega
  unfold World.cell? at hc
  rw [block_of_add, e, hb] at hc
  simp only at hc
  split at hc
  · cases hc
  · rw [Array.getElem?_eq_none ho] at hc; cases hc
theorem Row.far {w : World} {p q : Addr} {xs : List Int} (h : Row w p xs) (hq : p.block ≠ q.block) (u : Value) : Row (w.setCell q u) p xs :=
  ⟨by simpa [World.setCell] using h.1, fun j x hx => (World.cell?_setCell_other w q (p.add j) u (fun e => hq (by rw [e, block_of_add]))).trans (h.2 j x hx)⟩
/-- Memory is as it was, where a cell of a small block is set. -/
theorem Sits.far {w : World} {m : Me} {p q : Addr} {c d g i : Nat} {t : TypeId} {cs : Array Value} (h : Sits w m p q c d) (hb : Blk w g t cs) (hl : cs.size < 16) (u : Value) : Sits (w.setCell ⟨g, i, none⟩ u) m p q c d := by
  obtain ⟨⟨h0, h1, h2, h3⟩, h4, h5, h6, h7, h8, h9⟩ := h
  exact ⟨⟨h0, h1, h2, h3⟩, h4, h5, h6, h7, h8.far (h8.apart hb (by omega)) u, h9.far (h9.apart hb (by omega)) u⟩
theorem Sits.far3 {w : World} {m : Me} {p q : Addr} {c d g : Nat} {t : TypeId} {a0 a1 a2 : Value} (h : Sits w m p q c d) (hb : Blk w g t #[a0, a1, a2]) (u0 u1 u2 : Value) :
    Sits (((w.setCell ⟨g, 0, none⟩ u0).setCell ⟨g, 1, none⟩ u1).setCell ⟨g, 2, none⟩ u2) m p q c d :=
  ((h.far hb (by simp) u0).far (hb.set_ 0 u0) (by simp) u1).far ((hb.set_ 0 u0).set_ 1 u1) (by simp) u2
theorem Up.set3 {a b : World} (h : Up a b) {g : Nat} (hg : a.heap.size ≤ g) (u0 u1 u2 : Value) : Up a (((b.setCell ⟨g, 0, none⟩ u0).setCell ⟨g, 1, none⟩ u1).setCell ⟨g, 2, none⟩ u2) :=
  ((h.setCell hg u0).setCell hg u1).setCell hg u2

theorem grownBy_setRow (w : World) (g : Nat) (cs : Array Value) : w.grownBy (w.setRow g cs) (some g) :=
  ⟨rfl, rfl, rfl, by simp [World.setRow], fun k _ hk => setRow_other w g k cs (fun e => hk (by rw [e]))⟩

/-- copy, into a block that is known whole: nothing else turns. -/
theorem wpList_copy_to {P : Program} {w : World} {ops : Array Oper} {rest : List Oper} {o : Oper} {a : Act} {Q : Exit → Act → World → Prop} (hgd : o.guard = none) (d s : Operand) (dT sT : TypeId)
    (ho : o.op = .call { callee := .builtin .copy, args := #[d, s], argTypes := #[dT, sT] }) (elem : TypeId) (hu : P.underlying dT = some (.slice elem)) (hsz : (P.info? elem).map (·.size) = some 1)
    (dp sp : Option Addr) (dLen dCap sLen sCap : Nat) (hd : a.eval d = .slice dp dLen dCap) (hs : a.eval s = .slice sp sLen sCap)
    (g off : Nat) (cur : List Value) (t : TypeId) (hg : Blk w g t cur.toArray) (cs : List Value) (hn : cs.length = Nat.min sLen dLen)
    (hpos : 0 < cs.length → dp = some ⟨g, off, none⟩ ∧ ∃ ad, sp = some ad ∧ ∀ j v, cs[j]? = some v → w.cell? (ad.add j) = some v)
    (hfit : off + cs.length ≤ cur.length) (h1 : ∀ v ∈ cs, v.oneCell' = true)
    (h : ∀ w', Blk w' g t (splice cur off cs).toArray → w.grownBy w' (some g) → wpList P ops Q rest (a.put o.dst (goInt cs.length)) w') :
    wpList P ops Q (o :: rest) a w := by
  by_cases h0 : cs.length = 0
  · obtain rfl : cs = [] := List.eq_nil_of_length_eq_zero h0
    refine wpList_copy_nothing hgd d s dT sT ho elem hu hsz dp sp dLen dCap sLen sCap hd hs (by simpa using hn.symm) ?_
    exact h w (show Blk _ _ _ _ by simpa [splice] using hg) ⟨rfl, rfl, rfl, Nat.le_refl _, fun _ _ _ => rfl⟩
  · obtain ⟨rfl, ad, rfl, hsrc⟩ := hpos (by omega)
    refine wpList_copy_own hgd d s dT sT ho elem hu hsz g off dLen dCap ad sLen sCap hd hs cur.toArray t hg cs hn hsrc (by simpa using hfit) h1 ?_
    exact h _ (show Blk _ _ _ _ by unfold Blk; simpa [splice] using setRow_heap w g _ _ t _ hg) (grownBy_setRow _ _ _)

theorem step_copy_to {P : Program} {ops : Array Oper} {o : Oper} {a : Act} {w : World} {K : Act → World → Prop} {Q : Exit → Act → World → Prop} {E : Prop} (hgd : o.guard = none) (d s : Operand) (dT sT : TypeId)
    (ho : o.op = .call { callee := .builtin .copy, args := #[d, s], argTypes := #[dT, sT] }) (elem : TypeId) (hu : P.underlying dT = some (.slice elem)) (hsz : (P.info? elem).map (·.size) = some 1)
    (dp sp : Option Addr) (dLen dCap sLen sCap : Nat) (hd : a.eval d = .slice dp dLen dCap) (hs : a.eval s = .slice sp sLen sCap)
    (g off : Nat) (cur : List Value) (t : TypeId) (hg : Blk w g t cur.toArray) (cs : List Value) (hn : cs.length = Nat.min sLen dLen)
    (hpos : 0 < cs.length → dp = some ⟨g, off, none⟩ ∧ ∃ ad, sp = some ad ∧ ∀ j v, cs[j]? = some v → w.cell? (ad.add j) = some v)
    (hfit : off + cs.length ≤ cur.length) (h1 : ∀ v ∈ cs, v.oneCell' = true)
    (h : ∀ w', Blk w' g t (splice cur off cs).toArray → w.grownBy w' (some g) → K (a.put o.dst (goInt cs.length)) w') :
    if Region.wanted o (yielded ops a.tmps) = true then Oper.wp P o a w K Q else E := by
  have hw : Region.wanted o (yielded ops a.tmps) = true := by simp [Region.wanted, hgd]
  rw [if_pos hw]
  by_cases h0 : cs.length = 0
  · obtain rfl : cs = [] := List.eq_nil_of_length_eq_zero h0
    have hrun := run_copy_none (P := P) w dT sT o.type elem dp sp dLen dCap sLen sCap hu hsz (by simpa using hn.symm)
    unfold Oper.wp
    simp [execOp, ho, resolve, invoke, builtin, hd, hs, hrun, Result.andThen]
    exact h w (show Blk _ _ _ _ by simpa [splice] using hg) ⟨rfl, rfl, rfl, Nat.le_refl _, fun _ _ _ => rfl⟩
  · obtain ⟨rfl, ad, rfl, hsrc⟩ := hpos (by omega)
    have hrun := run_copy_row (P := P) w dT sT o.type elem g off dLen dCap ad sLen sCap cur.toArray t cs hu hsz hg hn hsrc (by simpa using hfit) h1
    unfold Oper.wp
    simp [execOp, ho, resolve, invoke, builtin, hd, hs, hrun, Result.andThen]
    exact h _ (show Blk _ _ _ _ by unfold Blk; simpa [splice] using setRow_heap w g _ _ t _ hg) (grownBy_setRow _ _ _)

/-- A region that draws its order, whose first operations only read: the world behind the draw under a name. -/
theorem region_tail {P : Program} {id : Nat} {Q : Exit → Act → World → Prop} {a : Act} {w : World} {l : List Oper} (n : Nat) (hm : P.follows .mixedOrders = true) (hB : Region.lexTailB .any l.toArray n = true) (W : World) (hW : W = w.drew)
    (h : wpStill P l.toArray W (fun a' => wpList P l.toArray Q (l.drop n) a' W) (l.take n) a) : (Code.region id l.toArray true).wp P Q a w := by
  subst hW
  exact wp_region_still_tail n hm hB h

/-- The walk halts at an operation. -/
def Halt (p : Prop) : Prop := p
theorem halt_at {P : Program} {ops : Array Oper} {rest : List Oper} {o : Oper} {a : Act} {w : World} {Q : Exit → Act → World → Prop} (h : Halt (wpList P ops Q (o :: rest) a w)) : wpList P ops Q (o :: rest) a w := h
end Go.Proofs.Ytgcpkgogjcgfbaa
