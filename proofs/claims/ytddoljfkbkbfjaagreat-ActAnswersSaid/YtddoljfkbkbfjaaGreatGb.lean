/- Graphs, plainly. -/
import Derived.Test.YtddoljfkbkbfjaaGreatGa
import Derived.Test.YtddoljfkbkbfjaaGreatNm
import Derived.Deep.RegionLaw
/-! Of stage 15 -/
namespace Go.Proofs.YtddoljfkbkbfjaaGreat.G
open Go.Joins Go.ChangeShapes Go.WideShapes Go.ChangeAt Go.RowKit Go.Deep Go.Shelf Go.Maps
set_option linter.unusedVariables false
set_option linter.unusedSimpArgs false

/-- What a thread does. -/
structure Op where
  kd : Int
  h : Int
  i : Int
  k : Int
  v : Int
  t : Int
  l : Int
  m : Int
/-- What a deed knows: the handles H and K, the answer. -/
structure Kn where
  h : Int
  k : Int
  e : Int
  v : Int
  y : Bool
def dcs (vn vs : Value) (th : Int) (o : Op) (s : Kn) : Array Value :=
  #[vn, vs, .int .i64 th, .int .i64 o.kd, .int .i64 o.h, .int .i64 o.i, .int .i64 o.k, .int .u64 o.v, .int .i64 o.t, .int .i64 o.l, .int .u64 o.m, .int .i64 s.h, .int .i64 s.k, .int .i64 s.e, .int .u64 s.v, .bool s.y]
/-- Which one, and why none. -/
def gte (xs : List Int) (h : Int) : Int := if 0 ≤ h ∧ h < xs.length then 0 else 5
def gtv (xs : List Int) (h : Int) : Int := if 0 ≤ h ∧ h < xs.length then xs.getD h.toNat 0 else 0
abbrev Qt (v : Value) (w : World) (e : Ending) (w' : World) : Prop := e = .returned v ∧ ∃ m, w' = w.drewN m

/-- The world has grown; what lies below is as it was, and so are all rows of functions. -/
structure Kf (base : Nat) (w w' : World) : Prop where
  os : w'.os = w.os
  tape : w'.tape = w.tape
  output : w'.output = w.output
  size : w.heap.size ≤ w'.heap.size
  old : ∀ k, k < base → k < w.heap.size → w'.heap[k]? = w.heap[k]?
  fns : ∀ k t cs, (t = 114 ∨ t = 110) → Blk w k t cs → Blk w' k t cs
theorem Kf.of_up {base : Nat} {w w' : World} (h : Up w w') : Kf base w w' := ⟨h.os, h.tape, h.output, h.size, fun k _ hk => h.block k hk, fun k t cs _ hb => hb.up h⟩
theorem Kf.refl (base : Nat) (w : World) : Kf base w w := .of_up (Up.refl w)
theorem Kf.trans {base : Nat} {a b c : World} (h : Kf base a b) (k : Kf base b c) : Kf base a c :=
  ⟨k.os.trans h.os, k.tape.trans h.tape, k.output.trans h.output, Nat.le_trans h.size k.size, fun i h1 h2 => (k.old i h1 (Nat.lt_of_lt_of_le h2 h.size)).trans (h.old i h1 h2), fun i t cs ht hb => k.fns i t cs ht (h.fns i t cs ht hb)⟩
theorem Kf.of_gb {base b : Nat} {w w' : World} {t : TypeId} {cs : Array Value} (h : w.grownBy w' (some b)) (hb : Blk w b t cs) (hge : base ≤ b) (h1 : 114 ≠ t) (h2 : 110 ≠ t) : Kf base w w' :=
  ⟨h.os, h.tape, h.output, h.size, fun k hk hl => h.block k hl (fun e => by cases e; omega), fun k t' cs' ht hk => hk.grown h (fun e => by
    cases e
    unfold Blk at hb hk
    rw [hb] at hk
    cases hk
    rcases ht with rfl | rfl
    · exact h1 rfl
    · exact h2 rfl)⟩
theorem Kf.set_ {base b : Nat} {w : World} {t : TypeId} {cs : Array Value} (hb : Blk w b t cs) (hge : base ≤ b) (h1 : 114 ≠ t) (h2 : 110 ≠ t) (i : Nat) (u : Value) : Kf base w (w.setCell ⟨b, i, none⟩ u) := .of_gb (grownBy_setAt _ b _ _) hb hge h1 h2
theorem Kf.up {base : Nat} {a b c : World} (h : Kf base a b) (k : Up b c) : Kf base a c := h.trans (.of_up k)
theorem Kf.below {w w' : World} {base : Nat} (h : Kf base w w') (a : World) (ha : Up a w) (hb : a.heap.size ≤ base) : Up a w' :=
  ⟨h.os.trans ha.os, h.tape.trans ha.tape, h.output.trans ha.output, Nat.le_trans ha.size h.size, fun k hk => (h.old k (by omega) (Nat.lt_of_lt_of_le hk ha.size)).trans (ha.block k hk)⟩

/-- A thread's handles. -/
def rowOf (g : Gr) (th : Int) : List Int := g.2.getD th.toNat []
def inN (g : Gr) (n : Int) : Prop := 1 ≤ n ∧ n ≤ g.1.length
instance (g : Gr) (n : Int) : Decidable (inN g n) := by unfold inN; infer_instance
def ndOf (g : Gr) (n : Int) : Nd := g.1.getD (n.toNat - 1) ((0, 0, 0), [])
/-- There is such a thread. -/
def isTh (g : Gr) (th : Int) : Prop := 0 ≤ th ∧ th < g.2.length
theorem OwnG.row {base : Nat} {w : World} {vn vs : Value} {g : Gr} {us us2 : List Value} {BF GS BS : Nat} (h : OwnG base w vn vs g us us2 BF GS BS) {th : Int} (ht : isTh g th) :
    ∃ A, us2[th.toNat]? = some (.slice A (rowOf g th).length (rowOf g th).length) ∧ Sl .i64 w (.slice A (rowOf g th).length (rowOf g th).length) (rowOf g th) := by
  obtain ⟨h0, h1⟩ := ht
  have hj : th.toNat < g.2.length := by omega
  have hju : th.toNat < us2.length := by rw [h.rows.len]; exact hj
  have hgr : g.2[th.toNat]? = some (rowOf g th) := by simp [rowOf, List.getD, List.getElem?_eq_getElem hj]
  obtain ⟨A, e, e2, e3⟩ := h.rows.row _ _ _ (List.getElem?_eq_getElem hju) hgr
  have hu := List.getElem?_eq_getElem hju
  rw [e] at hu
  exact ⟨A, hu, h.rows.gd.2 _ _ _ hu hgr⟩

end Go.Proofs.YtddoljfkbkbfjaaGreat.G
/-! Of stage 15 -/
namespace Go.Proofs.YtddoljfkbkbfjaaGreat.G
open Go.Joins Go.ChangeShapes Go.WideShapes Go.ChangeAt Go.RowKit Go.Deep Go.Shelf Go.Maps
set_option linter.unusedVariables false
set_option linter.unusedSimpArgs false

/-- Has the thread room? -/
def rme (g : Gr) (th : Int) : Int := if (rowOf g th).length < 16 then 0 else 4

end Go.Proofs.YtddoljfkbkbfjaaGreat.G
/-! Of stage 15 -/
namespace Go.Proofs.YtddoljfkbkbfjaaGreat.G
open Go.Joins Go.ChangeShapes Go.WideShapes Go.ChangeAt Go.RowKit Go.Deep Go.Shelf Go.Maps
set_option linter.unusedVariables false
set_option linter.unusedSimpArgs false

theorem Qt.u {P : Program} {f : FuncId} {args : Array Value} {v : Value} {w w' : World} (h : Calls P f args w (Qt v w')) (k : w' = w) : Calls P f args w fun e w'' => e = .returned v ∧ Up w w'' := h.mono fun e w'' ⟨h1, m, h2⟩ => ⟨h1, by rw [h2, k]; exact (Up.refl _).drewN _⟩
theorem quietU {P : Program} {f : FuncId} {args : Array Value} {W : World} {n : Nat} {v : Value} (h : Calls P f args (W.drewN n) fun e w' => e = .returned v ∧ W.drewN n = w') : Calls P f args (W.drewN n) fun e w'' => e = .returned v ∧ ∃ m, w'' = W.drewN m :=
  h.mono (fun e w' q => ⟨q.1, n, q.2.symm⟩)
theorem drew2 (w : World) (a b : Nat) : ∃ m, (w.drewN a).drewN b = w.drewN m := ⟨_, World.drewN_drewN _ _ _⟩
theorem drew3 (w : World) (a b c : Nat) : ∃ m, ((w.drewN a).drewN b).drewN c = w.drewN m := ⟨a + (b + c), by rw [World.drewN_drewN, World.drewN_drewN]⟩
theorem Qt.q {P : Program} {f : FuncId} {args : Array Value} {v : Value} {w : World} {m : Nat} (h : Calls P f args (w.drewN m) (Qt v (w.drewN m))) : Calls P f args (w.drewN m) fun e w' => e = .returned v ∧ ∃ n, w' = w.drewN n :=
  h.mono fun e w' ⟨h1, k, h2⟩ => ⟨h1, m + k, by rw [h2, World.drewN_drewN]⟩
/-- The field I of H. -/
def fde (g : Gr) (th : Int) (o : Op) : Int := if gte (rowOf g th) o.h = 0 then (if inN g (gtv (rowOf g th) o.h) then (if 0 ≤ o.i ∧ o.i < (ndOf g (gtv (rowOf g th) o.h)).2.length then 0 else 7) else 6) else 5
/-- Is a node's field a pointer? -/
def isP (n : Nd) (i : Int) : Bool := ptb n.1.2.1 n.1.2.2 i
/-- Heads' words are words. -/
def MapOk (g : Gr) : Prop := ∀ n ∈ g.1, 0 ≤ n.1.2.2 ∧ n.1.2.2 ≤ 18446744073709551615
theorem MapOk.nd {g : Gr} (h : MapOk g) {n : Int} (hn : inN g n) : 0 ≤ (ndOf g n).1.2.2 ∧ (ndOf g n).1.2.2 ≤ 18446744073709551615 := by
  obtain ⟨h0, h1⟩ := hn
  refine h _ ?_
  unfold ndOf
  have : n.toNat - 1 < g.1.length := by omega
  simp [List.getD, List.getElem?_eq_getElem this]

end Go.Proofs.YtddoljfkbkbfjaaGreat.G
/-! Of stage 15 -/
namespace Go.Proofs.YtddoljfkbkbfjaaGreat.G
open Go.Joins Go.ChangeShapes Go.WideShapes Go.ChangeAt Go.RowKit Go.Deep Go.Shelf Go.Maps
set_option linter.unusedVariables false
set_option linter.unusedSimpArgs false

/-- What holds wherever the blocks of some types are as they are here. -/
def Rob (T : TypeId → Prop) (P : World → Prop) (w : World) : Prop := ∀ w', (∀ b t cs, T t → Blk w b t cs → Blk w' b t cs) → P w'
theorem Rob.out {T : TypeId → Prop} {P : World → Prop} {w : World} (h : Rob T P w) : P w := h w (fun _ _ _ _ hb => hb)
theorem Rob.keep {T : TypeId → Prop} {P : World → Prop} {w w' : World} (h : Rob T P w) (k : ∀ b t cs, T t → Blk w b t cs → Blk w' b t cs) : Rob T P w' := fun w'' k' => h w'' (fun b t cs ht hb => k' b t cs ht (k b t cs ht hb))
theorem Rob.up {T : TypeId → Prop} {P : World → Prop} {w w' : World} (h : Rob T P w) (u : Up w w') : Rob T P w' := h.keep fun _ _ _ _ hb => hb.up u
theorem Rob.set_ {T : TypeId → Prop} {P : World → Prop} {w : World} {b : Nat} {t : TypeId} {cs : Array Value} (h : Rob T P w) (hb : Blk w b t cs) (hn : ¬ T t) (i : Nat) (u : Value) : Rob T P (w.setCell ⟨b, i, none⟩ u) :=
  h.keep fun _ _ _ ht hc => hc.far (p := ⟨b, i, none⟩) (hc.ne_type hb (fun e => hn (e ▸ ht))) u
def tInt (t : TypeId) : Prop := t = 3
def tNod (t : TypeId) : Prop := t = 89 ∨ t = 54
def tRow (t : TypeId) : Prop := t = 29 ∨ t = 3
theorem own_keep {w w' : World} {n₀ : Nat} {e : TypeId} {size n : Nat} {v : Value} {xs : List Value} (h : w.ownsRow n₀ e size v n xs) (k : ∀ b cs, Blk w b e cs → Blk w' b e cs) : w'.ownsRow n₀ e size v n xs :=
  ⟨h.1, h.2.imp id fun ⟨g, cap, cur, h1, h2, h3, r⟩ => ⟨g, cap, cur, h1, h2, k g cur h3, r⟩⟩
/-- A full row takes one more: it moves. -/
theorem run_push {w : World} (ty : TypeId) (A : Option Addr) (xs : List Int) (n : Nat) (hx : Sl .i64 w (.slice A n n) xs) (B : Addr) (c : Nat) (y : Int) (hy : w.cell? B = some (.int .i64 y)) (hb : n ≤ 1000) :
    ∃ v' w', (Builtin.append_ #[29, 29] ty #[.slice A n n, .slice (some B) 1 c]).run Tryz.prog w = .ok v' w' ∧ Rob tInt (fun W => Sl .i64 W v' (xs ++ [y])) w' ∧ Up w w' := by
  obtain ⟨e, hrv, -, -, hA⟩ := hx.rv
  subst e
  obtain ⟨⟨i0, z, hi, hz0, hz1, hz2, hz3⟩, hu, _, _⟩ := el_int
  have hy' : ∀ j u, [Value.int .i64 y][j]? = some u → w.cell? (B.add j) = some u := fun j u h => by
    cases j with
    | zero => simp at h; subst h; rw [Addr.add_zero']; exact hy
    | succ j => simp at h
  have fin : ∀ v' w', w'.ownsRow w.heap.size 3 1 v' (xs.length + 1) (xs.map (Value.int .i64) ++ [Value.int .i64 y]) → w.grownBy w' none → Rob tInt (fun W => Sl .i64 W v' (xs ++ [y])) w' ∧ Up w w' := fun v' w' h0 h2 => by
    refine ⟨fun w2 k2 => ?_, Up.grown (Up.refl w) h2 (fun k e => by cases e)⟩
    have h1 := own_keep h0 (fun b cs hb => k2 b _ cs rfl hb)
    obtain ⟨A', c', rfl⟩ := own_slice h1
    obtain ⟨_, q1, q2, q3, q4⟩ := rv_of_own h1 (by simp)
    refine ⟨A', c', by simp, by simpa using q1, q2, q3, by simpa using q4⟩
  cases A with
  | none =>
    have h0 := hA rfl
    obtain rfl := List.eq_nil_of_length_eq_zero h0
    obtain ⟨v', w', hrun, r1, r2, _⟩ := run_append_own (P := Tryz.prog) w w.heap.size 29 ty 3 i0 _ 1 8 hu hi hz0 hz1 hz2 hz3 (by decide) (.slice none 0 0) 0 [] (World.ownsRow_nil w _ _ 1) B 1 c [.int .i64 y] rfl hy' (fun u h => by simp at h; subst h; rfl) (by unfold maxLen; omega) (by omega) (Nat.le_refl _)
    exact ⟨v', w', hrun, fin v' w' r1 (by simpa [Value.ownBlock] using r2)⟩
  | some a =>
    have hl : ∀ j u, (xs.map (Value.int .i64))[j]? = some u → w.cell? (a.add j) = some u := fun j u hj => by
      obtain ⟨p, e2, _, hc⟩ := hrv (fun q => by rw [q] at hj; simp at hj)
      cases e2
      exact hc j u hj
    obtain ⟨v', w', hrun, r1, r2⟩ := run_append_arg_grows (P := Tryz.prog) w 29 ty 3 i0 _ 1 8 hu hi hz0 hz1 hz2 hz3 (by decide) a xs.length xs.length (xs.map (Value.int .i64)) (by simp) hl B 1 c [.int .i64 y] rfl hy' (by omega) (by unfold maxLen; omega) (by omega)
    exact ⟨v', w', hrun, fin v' w' r1 r2⟩
theorem step_push {W0 w : World} {ops : Array Oper} {o : Oper} {a : Act} {K : Act → World → Prop} {Q : Exit → Act → World → Prop} {F : Prop} (hgd : o.guard = none) (s x : Operand) (ho : o.op = .call { callee := .builtin .append, args := #[s, x], argTypes := #[29, 29] })
    (A : Option Addr) (xs : List Int) (n : Nat) (hs : a.eval s = .slice A n n) (hx : Sl .i64 w (.slice A n n) xs) (B : Addr) (c : Nat) (y : Int) (hB : a.eval x = .slice (some B) 1 c) (hy : w.cell? B = some (.int .i64 y)) (hb : n ≤ 1000) (hU : Up W0 w)
    (h : ∀ A' l' c' w', Rob tInt (fun W => Sl .i64 W (.slice A' l' c') (xs ++ [y])) w' → Up W0 w' → K (a.put o.dst (.slice A' l' c')) w') : if Region.wanted o (yielded ops a.tmps) = true then Oper.wp Tryz.prog o a w K Q else F := by
  obtain ⟨v', w', hr, h1, h2⟩ := run_push o.type A xs n hx B c y hy hb
  have hw : Region.wanted o (yielded ops a.tmps) = true := by simp [Region.wanted, hgd]
  rw [if_pos hw]
  obtain ⟨A', c', rfl⟩ := h1.out.slice
  exact Lib.wp_append_run w s x 29 29 ho _ _ hs hB _ w' hr (h _ _ _ w' h1 (hU.trans h2))
theorem Ct.keep {k : IntKind} {e : TypeId} {base : Nat} {w w' : World} {us : List Value} {L : List (List Int)} {B : Nat} (h : Ct k e base w us L B) (hk : ∀ g cs, Blk w g e cs → Blk w' g e cs) : Ct k e base w' us L B :=
  ⟨h.len, h.row, fun q => by
    obtain ⟨h1, cs, h2, h3⟩ := h.blk q
    exact ⟨h1, cs, hk _ _ h2, h3⟩, h.short⟩
theorem OwnG.nsR {base : Nat} {w : World} {vn vs : Value} {g : Gr} {us us2 : List Value} {BF GS BS : Nat} (h : OwnG base w vn vs g us us2 BF GS BS) : Rob tNod (fun W => Ns W vn g.1) w := fun w' k =>
  ⟨us, ns_of_own (own_keep h.nodes (fun b cs hb => k b _ cs (.inl rfl) hb)) (h.flds.keep (fun b cs hb => k b _ cs (.inr rfl) hb)).gd⟩
theorem OwnG.gdR {base : Nat} {w : World} {vn vs : Value} {g : Gr} {us us2 : List Value} {BF GS BS : Nat} (h : OwnG base w vn vs g us us2 BF GS BS) : Rob tInt (fun W => Gd .i64 W us2 g.2) w := fun w' k => (h.rows.keep (fun b cs hb => k b _ cs rfl hb)).gd
theorem OwnG.rwR {base : Nat} {w : World} {vn vs : Value} {g : Gr} {us us2 : List Value} {BF GS BS : Nat} (h : OwnG base w vn vs g us us2 BF GS BS) : Rob tRow (fun W => Rw .i64 W vs g.2) w := fun w' k =>
  ⟨us2, _, _, h.val, Nat.le_refl _, h.few, fun q => (by cases q), rv_of_blk (k _ _ _ (.inl rfl) h.grid) (fun j v hj => by simpa using hj), (h.rows.keep (fun b cs hb => k b _ cs (.inr rfl) hb)).gd⟩
def pushG (g : Gr) (th h : Int) : Gr := (g.1, g.2.set th.toNat (rowOf g th ++ [h]))


end Go.Proofs.YtddoljfkbkbfjaaGreat.G
/-! Of stage 15 -/
namespace Go.Proofs.YtddoljfkbkbfjaaGreat.G
open Go.Joins Go.ChangeShapes Go.WideShapes Go.ChangeAt Go.RowKit Go.Deep Go.Shelf Go.Maps
set_option linter.unusedVariables false
set_option linter.unusedSimpArgs false

theorem run_cut1 (A : Option Addr) (n c k : Nat) (hk : k ≤ c) (w : World) :
    (Instr.sliceAt 29 (.slice A n c) none (some (.int .i64 (k : Int))) none).run Tryz.prog w = .ok (.slice A k c) w ∧ (Instr.slice 29 (.slice A n c) none (some (.int .i64 (k : Int))) none).run Tryz.prog w = .ok (.slice A k c) w := by
  obtain ⟨i0, z, hi0, hz0, hz1, hz2⟩ := el_int.ex
  have hel : Tryz.prog.elem 29 = 3 := by kernel_rfl
  have hu : Tryz.prog.underlying 29 = some (.slice (Tryz.prog.elem 29)) := by rw [hel]; exact el_int.und
  rw [run_sliceAt_slice (h := hu), and_self, run_slice_h (ht := hu) (h0 := by omega) (h2 := by omega), hel]
  cases A
  · simp [sizeOf, typeInfo, hi0, sliced]
  · rename_i p
    have e0 : p.add 0 = p := Addr.add_zero' p
    simp [sizeOf, typeInfo, hi0, sliced, e0]
def popG (g : Gr) (th : Int) : Gr := (g.1, g.2.set th.toNat (rowOf g th).dropLast)

end Go.Proofs.YtddoljfkbkbfjaaGreat.G
/-! Of stage 15 -/
namespace Go.Proofs.YtddoljfkbkbfjaaGreat.G
open Go.Joins Go.ChangeShapes Go.WideShapes Go.ChangeAt Go.RowKit Go.Deep Go.Shelf Go.Maps
set_option linter.unusedVariables false
set_option linter.unusedSimpArgs false

/-- An object's head. -/
def okH (t l m : Int) : Bool := decide (rte t l m = 0) && decide (t ≠ 255)
theorem rte_len {t l m : Int} (h : rte t l m = 0) (ht : t ≠ 255) : 0 ≤ l ∧ l ≤ 16 := by
  unfold rte at h
  split at h
  · omega
  · split at h
    · omega
    · omega
theorem make_words (n : Nat) (hn : n ≤ 16) (w : World) :
    (Instr.makeSlice 22 (.int .i64 (n : Int)) (.int .i64 (n : Int))).run Tryz.prog w = .ok (.slice (some ⟨w.heap.size, 0, none⟩) n n) (w.alloc (.cells (List.replicate n (Value.int .u64 0)).toArray 54)) := by
  have := run_make_row' (P := Tryz.prog) 22 54 (.int .u64 0) 8 Tryz.underlying22 (by kernel_rfl) rfl .i64 .i64 n (by omega) (by omega) w
  rw [show madeCells #[Value.int .u64 0] n = (List.replicate n (Value.int .u64 0)).toArray from by
    apply Array.ext
    · simp [size_madeCells]
    · intro i h1 h2
      simp [madeCells, Nat.mod_one]] at this
  exact this
def allocN (g : Gr) (o : Op) : Gr := (g.1 ++ [((o.t, o.l, o.m), List.replicate o.l.toNat 0)], g.2)
/-- A row of nodes of the call's own takes one more. -/
theorem step_node {W0 w : World} {ops : Array Oper} {o : Oper} {a : Act} {K : Act → World → Prop} {Q : Exit → Act → World → Prop} {F : Prop} (hgd : o.guard = none) (s x : Operand) (ho : o.op = .call { callee := .builtin .append, args := #[s, x], argTypes := #[46, 46] })
    (base n : Nat) (v : Value) (xs : List Value) (hs : a.eval s = v) (hx : w.ownsRow base 89 4 v n xs) (B c : Nat) (t l m u : Value) (hB : a.eval x = .slice (some ⟨B, 0, none⟩) 1 c) (hy : Blk w B 89 #[t, l, m, u]) (h1 : ∀ z ∈ [t, l, m, u], z.oneCell' = true) (hb : n ≤ 1048576) (hbase : base ≤ w.heap.size)
    (h : ∀ A' c' w', w'.ownsRow base 89 4 (.slice A' (n + 1) c') (n + 1) (xs ++ [t, l, m, u]) → w.grownBy w' v.ownBlock → K (a.put o.dst (.slice A' (n + 1) c')) w') : if Region.wanted o (yielded ops a.tmps) = true then Oper.wp Tryz.prog o a w K Q else F := by
  obtain ⟨v', w', hr, h2, h3, -⟩ := run_any el_node o.type base n v xs hx (some ⟨B, 0, none⟩) 1 c [t, l, m, u] rfl (rv_of_blk hy (fun j z hj => by simpa using hj)) h1 (by omega) hbase
  have hw : Region.wanted o (yielded ops a.tmps) = true := by simp [Region.wanted, hgd]
  rw [if_pos hw]
  obtain ⟨A', c', rfl⟩ := own_slice h2
  exact Lib.wp_append_run w s x 46 46 ho _ _ hs hB _ w' hr (h _ _ w' h2 h3)

end Go.Proofs.YtddoljfkbkbfjaaGreat.G
/-! Of stage 15 -/
namespace Go.Proofs.YtddoljfkbkbfjaaGreat.G
open Go.Joins Go.ChangeShapes Go.WideShapes Go.ChangeAt Go.RowKit Go.Deep Go.Shelf Go.Maps
set_option linter.unusedVariables false
set_option linter.unusedSimpArgs false

theorem le_aa {base : Nat} {w : World} (h : base ≤ w.heap.size) (a b : Obj) : base ≤ (((w.alloc a).alloc b).drew).heap.size := Nat.le_trans h ((((Up.refl w).alloc a).alloc b).drew).size

end Go.Proofs.YtddoljfkbkbfjaaGreat.G
/-! Of stage 15 -/
namespace Go.Proofs.YtddoljfkbkbfjaaGreat.G
open Go.Joins Go.ChangeShapes Go.WideShapes Go.ChangeAt Go.RowKit Go.Deep Go.Shelf Go.Maps
set_option linter.unusedVariables false
set_option linter.unusedSimpArgs false

theorem flatten_set {L : List (List Int)} {j i : Nat} {xs : List Int} (h : L[j]? = some xs) (hi : i < xs.length) (v : Int) : (L.set j (xs.set i v)).flatten = L.flatten.set (off L j + i) v ∧ ∀ k, off (L.set j (xs.set i v)) k = off L k := by
  induction L generalizing j with
  | nil => simp at h
  | cons y r ih =>
    cases j with
    | zero =>
      simp only [List.getElem?_cons_zero, Option.some.injEq] at h
      subst h
      refine ⟨?_, fun k => ?_⟩
      · simp only [List.set_cons_zero, List.flatten_cons, off, List.take_zero, List.flatten_nil, List.length_nil, Nat.zero_add]
        rw [List.set_append_left _ _ hi]
      · cases k with
        | zero => rfl
        | succ k => simp [off]
    | succ j =>
      simp only [List.getElem?_cons_succ] at h
      obtain ⟨e1, e2⟩ := ih h
      have eo : off (y :: r) (j + 1) = y.length + off r j := by simp [off]
      refine ⟨?_, fun k => ?_⟩
      · simp only [List.set_cons_succ, List.flatten_cons]
        rw [e1, eo, Nat.add_assoc, List.set_append_right _ _ (by omega)]
        congr 2
        omega
      · cases k with
        | zero => rfl
        | succ k =>
          have := e2 k
          simp only [off] at this ⊢
          simp only [List.set_cons_succ, List.take_succ_cons, List.flatten_cons, List.length_append]
          rw [this]
theorem Ct.set_ {k : IntKind} {e : TypeId} {base : Nat} {w : World} {us : List Value} {L : List (List Int)} {B j i : Nat} {xs : List Int} (h : Ct k e base w us L B) (hj : L[j]? = some xs) (hi : i < xs.length) (v : Int) :
    Ct k e base (w.setCell ⟨B, off L j + i, none⟩ (.int k v)) us (L.set j (xs.set i v)) B := by
  obtain ⟨e1, e2⟩ := flatten_set hj hi v
  have hjl : j < L.length := by
    rcases Nat.lt_or_ge j L.length with q | q
    · exact q
    · rw [List.getElem?_eq_none q] at hj; cases hj
  refine ⟨by rw [List.length_set]; exact h.len, fun a u ys h1 h2 => ?_, fun q => ?_, fun ys hy => ?_⟩
  · rw [e2]
    by_cases ha : a = j
    · subst ha
      rw [List.getElem?_set_self hjl] at h2
      cases h2
      rw [List.length_set]
      obtain ⟨A, q1, q2, q3⟩ := h.row a u xs h1 hj
      exact ⟨A, q1, q2, fun _ => q3 (fun q => by rw [q] at hi; simp at hi)⟩
    · rw [List.getElem?_set_ne (fun q => ha q.symm)] at h2
      exact h.row a u ys h1 h2
  · have hf : L.flatten ≠ [] := fun q2 => q (by rw [e1, q2]; rfl)
    obtain ⟨h1, cs, h2, h3⟩ := h.blk hf
    refine ⟨h1, _, h2.set_ (off L j + i) (.int k v), fun a x hx => ?_⟩
    rw [e1] at hx
    have hlt : off L j + i < cs.size := by
      have := h3 (off L j + i) _ (flat_at hj (List.getElem?_eq_getElem hi))
      rcases Nat.lt_or_ge (off L j + i) cs.size with q | q
      · exact q
      · rw [Array.getElem?_eq_none q] at this; cases this
    by_cases ha : a = off L j + i
    · subst ha
      have hl2 : off L j + i < L.flatten.length := by
        rcases Nat.lt_or_ge (off L j + i) L.flatten.length with q | q
        · exact q
        · rw [List.getElem?_eq_none (by simpa using q)] at hx; cases hx
      rw [List.getElem?_set_self hl2] at hx
      cases hx
      rw [Array.getElem?_setIfInBounds_self_of_lt hlt]
    · rw [List.getElem?_set_ne (fun q => ha q.symm)] at hx
      rw [Array.getElem?_setIfInBounds_ne (fun q => ha q.symm)]
      exact h3 a x hx
  · rcases List.mem_or_eq_of_mem_set hy with q | q
    · exact h.short ys q
    · rw [q, List.length_set]; exact h.short xs (List.mem_of_getElem? hj)
/-- A node's field is another word. -/
def setF (g : Gr) (n : Int) (i : Nat) (v : Int) : Gr := (g.1.set (n.toNat - 1) ((ndOf g n).1, (ndOf g n).2.set i v), g.2)
theorem nvs_same : ∀ (ns : List Nd) (us : List Value) (j : Nat) (n : Nd) (f : List Int), ns[j]? = some n → nvs (ns.set j (n.1, f)) us = nvs ns us
  | [], us, j, n, f, h => by simp at h
  | m :: r, [], j, n, f, h => by cases j <;> rfl
  | m :: r, u :: us, 0, n, f, h => by simp at h; subst h; rfl
  | m :: r, u :: us, j + 1, n, f, h => by simp [nvs, nvs_same r us j n f (by simpa using h)]
/-- The new word. -/
def wrt (o : Op) (s : Kn) (x : Int) : Int := if o.kd = 6 then Nm.addw x o.v else if o.kd = 7 then Nm.mulw x o.v else if o.kd = 5 then s.k else o.v


end Go.Proofs.YtddoljfkbkbfjaaGreat.G
/-! Of stage 15 -/
namespace Go.Proofs.YtddoljfkbkbfjaaGreat.G
open Go.Joins Go.ChangeShapes Go.WideShapes Go.ChangeAt Go.RowKit Go.Deep Go.Shelf Go.Maps
set_option linter.unusedVariables false
set_option linter.unusedSimpArgs false

/-- A method of the deed, as a value. -/
def fnm (D : Nat) (f : FuncId) : Value := .func (.func f) #[.pointer (some ⟨D, 0, none⟩)] #[]
/-- Steps that come to Φ, done one after the other till one refuses. -/
def Run (base D : Nat) (Φ : Int → World → Prop) : List FuncId → World → Prop
  | [], w => ∀ w', Up w w' → Φ 0 w'
  | f :: fs, w => (∀ args w, (callFunc f args).run Tryz.prog w = .ok (.enter f args) w) ∧ ∀ w0, Up w w0 → Calls Tryz.prog f #[.pointer (some ⟨D, 0, none⟩)] w0 fun e w' => ∃ x : Int, e = .returned (.int .i64 x) ∧ Kf base w0 w' ∧ (x ≠ 0 → ∀ w'', Up w' w'' → Φ x w'') ∧ (x = 0 → Run base D Φ fs w')
theorem Run.up {base D : Nat} {Φ : Int → World → Prop} {fs : List FuncId} {w w' : World} (h : Run base D Φ fs w) (k : Up w w') : Run base D Φ fs w' := by
  cases fs with
  | nil => exact fun w'' q => h w'' (k.trans q)
  | cons c cs => exact ⟨h.1, fun w'' q => h.2 w'' (k.trans q)⟩
def RunP (base : Nat) (Φ : Int → World → Prop) (w : World) (e : Ending) (w' : World) : Prop := ∃ x : Int, e = .returned (.int .i64 x) ∧ Kf base w w' ∧ Φ x w'
def RunRel (base D : Nat) (Φ : Int → World → Prop) (fs : List FuncId) (w : World) (i : Value) (wr : World) : Prop := ∃ j : Nat, j ≤ fs.length ∧ i = .int .i64 j ∧ Kf base w wr ∧ Run base D Φ (fs.drop j) wr

end Go.Proofs.YtddoljfkbkbfjaaGreat.G
/-! Of stage 15 -/
namespace Go.Proofs.YtddoljfkbkbfjaaGreat.G
open Go.Joins Go.ChangeShapes Go.WideShapes Go.ChangeAt Go.RowKit Go.Deep Go.Shelf Go.Maps
set_option linter.unusedVariables false
set_option linter.unusedSimpArgs false

/-- A function is read as itself. -/
def RF (v : Value) : Option (DataW Value × List MemPlace) := some (.held v, [])
abbrev OwnF (w : World) (M n : Nat) (D : DataW Value) : Prop := w.ownsMap Tryz.prog 3 RF M n D
theorem lawI : Keyed Tryz.prog 3 := int_keyed Tryz.underlying3
theorem key_i {k : Int} (h : I64 k) : keyOf Tryz.prog 3 (.int .i64 k) = some (.int .i64 k) := keyOf_int_mk Tryz.underlying3 (by
  have e : IntKind.i64.min = -9223372036854775808 := by decide
  have e2 : IntKind.i64.max = 9223372036854775807 := by decide
  simp [Lit.wf, e, e2]
  exact h)
/-- A block of cells stays where a map is written. -/
theorem blk_map {w w' : World} {M n g : Nat} {D : DataW Value} {t : TypeId} {cs : Array Value} (h : Blk w g t cs) (ho : OwnF w M n D) (hg : w.grownBy w' (some M)) : Blk w' g t cs :=
  h.grown hg (fun e => by
    cases e
    obtain ⟨es, clock, hb, _⟩ := ho
    unfold Blk at h
    rw [hb] at h
    cases h)
/-- What a key has. -/
def got (D : DataW Value) (kd : Int) (v : Option Value) : Prop := Maps.has D (.int .i64 kd) = v.isSome ∧ ∀ u, v = some u → ∀ z, D.atKey (.int .i64 kd) z = .held u
theorem isKey (k : Int) : WideAt.IsKeyLit (.int .i64 k) := by first | trivial | exact ⟨⟩ | simp [WideAt.IsKeyLit]
theorem got_same {D : DataW Value} (h : IsMap D) (k : Int) (v : Value) : got (D.put (.int .i64 k) (.held v)) k (some v) := ⟨by rw [has_put_same h (isKey k)]; rfl, fun u e z => by cases e; exact atKey_put_same h (isKey k) _ _⟩
theorem got_other {D : DataW Value} {k k' : Int} {v : Value} {u : Option Value} (hne : k' ≠ k) (h : got D k' u) : got (D.put (.int .i64 k) (.held v)) k' u := by
  have hl : (Lit.int .i64 k') ≠ (Lit.int .i64 k) := fun e => hne (by cases e; rfl)
  exact ⟨by rw [has_put_other hl]; exact h.1, fun x e z => by rw [atKey_put_other hl]; exact h.2 x e z⟩
theorem got_none (kd : Int) : got (.map []) kd none := ⟨rfl, fun u e => by cases e⟩

end Go.Proofs.YtddoljfkbkbfjaaGreat.G
/-! Of stage 15 -/
namespace Go.Proofs.YtddoljfkbkbfjaaGreat.G
open Go.Joins Go.ChangeShapes Go.WideShapes Go.ChangeAt Go.RowKit Go.Deep Go.Shelf Go.Maps
set_option linter.unusedVariables false
set_option linter.unusedSimpArgs false

/-- A graph is right. -/
structure Rg (g : Gr) : Prop where
  hd : ∀ n ∈ g.1, okH n.1.1 n.1.2.1 n.1.2.2 = true ∧ (n.2.length : Int) = n.1.2.1
  mp : MapOk g
  fu : ∀ n ∈ g.1, ∀ x ∈ n.2, U64 x
  pt : ∀ n ∈ g.1, ∀ i : Nat, i < n.2.length → isP n i = true → n.2.getD i 0 ≤ g.1.length
  hn : ∀ row ∈ g.2, ∀ h ∈ row, 0 ≤ h ∧ h ≤ g.1.length
theorem ndOf_mem {g : Gr} {n : Int} (h : inN g n) : ndOf g n ∈ g.1 := by
  obtain ⟨h0, h1⟩ := h
  unfold ndOf
  have : n.toNat - 1 < g.1.length := by omega
  simp [List.getD, List.getElem?_eq_getElem this]
theorem getD_mem {α : Type} {L : List α} {x : Nat} (d : α) (h : x < L.length) : L.getD x d ∈ L := by simp [List.getD, List.getElem?_eq_getElem h]
theorem okH_len {t l m : Int} (h : okH t l m = true) : 0 ≤ l ∧ l ≤ 16 := by
  unfold okH at h
  rw [Bool.and_eq_true, decide_eq_true_eq, decide_eq_true_eq] at h
  exact rte_len h.1 h.2
theorem Rg.len {g : Gr} (h : Rg g) {n : Int} (hn : inN g n) : (ndOf g n).2.length ≤ 16 := by
  obtain ⟨h1, h2⟩ := h.hd _ (ndOf_mem hn)
  have := okH_len h1
  omega
theorem Rg.row {g : Gr} (h : Rg g) {th : Int} (ht : isTh g th) : ∀ x ∈ rowOf g th, 0 ≤ x ∧ x ≤ g.1.length := h.hn _ (by
  obtain ⟨h0, h1⟩ := ht
  exact getD_mem [] (by omega))
theorem gtv_bd {g : Gr} (h : Rg g) {th : Int} (ht : isTh g th) (k : Int) : 0 ≤ gtv (rowOf g th) k ∧ gtv (rowOf g th) k ≤ g.1.length := by
  unfold gtv
  split
  · rename_i q
    exact h.row ht _ (getD_mem 0 (by omega))
  · omega
/-- The object of H. -/
abbrev hob (g : Gr) (th : Int) (o : Op) : Nd := ndOf g (gtv (rowOf g th) o.h)
/-- The field's word. -/
abbrev fwd (g : Gr) (th : Int) (o : Op) : Int := (hob g th o).2.getD o.i.toNat 0
def errG (g : Gr) (th : Int) (o : Op) : Int :=
  if o.kd = 1 then (if okH o.t o.l o.m then rme g th else 1)
  else if o.kd = 2 ∨ o.kd = 4 ∨ o.kd = 6 ∨ o.kd = 7 then (if fde g th o = 0 then (if isP (hob g th o) o.i then 8 else 0) else fde g th o)
  else if o.kd = 3 then (if fde g th o = 0 then (if isP (hob g th o) o.i then rme g th else 8) else fde g th o)
  else if o.kd = 5 then (if fde g th o = 0 then (if isP (hob g th o) o.i then gte (rowOf g th) o.k else 8) else fde g th o)
  else if o.kd = 8 then (if gte (rowOf g th) o.h = 0 then gte (rowOf g th) o.k else gte (rowOf g th) o.h)
  else if o.kd = 9 then (if gte (rowOf g th) o.h = 0 then rme g th else gte (rowOf g th) o.h)
  else if o.kd = 10 then (if rowOf g th = [] then 9 else 0)
  else if o.kd = 11 then 0 else 1
/-- What is written. -/
def wrv (g : Gr) (th : Int) (o : Op) : Int := if o.kd = 6 then Nm.addw (fwd g th o) o.v else if o.kd = 7 then Nm.mulw (fwd g th o) o.v else if o.kd = 5 then gtv (rowOf g th) o.k else o.v
def newG (g : Gr) (th : Int) (o : Op) : Gr :=
  if o.kd = 1 then pushG (allocN g o) th (g.1.length + 1)
  else if o.kd = 3 then pushG g th (fwd g th o)
  else if o.kd = 4 ∨ o.kd = 5 ∨ o.kd = 6 ∨ o.kd = 7 then setF g (gtv (rowOf g th) o.h) o.i.toNat (wrv g th o)
  else if o.kd = 9 then pushG g th (gtv (rowOf g th) o.h)
  else if o.kd = 10 then popG g th else g
def ansV (g : Gr) (th : Int) (o : Op) : Int := if o.kd = 2 then fwd g th o else 0
def ansY (g : Gr) (th : Int) (o : Op) : Bool := decide (o.kd = 8) && decide (gtv (rowOf g th) o.h = gtv (rowOf g th) o.k)
/-- An answer. -/
abbrev An := Int × Int × Bool
instance (g : Gr) (th : Int) : Decidable (isTh g th) := by unfold isTh; infer_instance
def doG (g : Gr) (th : Int) (o : Op) : Gr × An := if isTh g th then (if errG g th o = 0 then (newG g th o, (0, ansV g th o, ansY g th o)) else (g, (errG g th o, 0, false))) else (g, (1, 0, false))
/-- A deed at its beginning. -/
abbrev kn0 : Kn := ⟨0, 0, 0, 0, false⟩
abbrev K1 (g : Gr) (th : Int) (o : Op) : Kn := ⟨gtv (rowOf g th) o.h, 0, 0, 0, false⟩
abbrev K2 (g : Gr) (th : Int) (o : Op) : Kn := ⟨gtv (rowOf g th) o.h, gtv (rowOf g th) o.k, 0, 0, false⟩
theorem err1 {g : Gr} {th : Int} {o : Op} (h : o.kd = 1) : errG g th o = if okH o.t o.l o.m then rme g th else 1 := by unfold errG; rw [if_pos h]
theorem errS {g : Gr} {th : Int} {o : Op} (h : o.kd = 2 ∨ o.kd = 4 ∨ o.kd = 6 ∨ o.kd = 7) : errG g th o = if fde g th o = 0 then (if isP (hob g th o) o.i then 8 else 0) else fde g th o := by unfold errG; rw [if_neg (by omega), if_pos h]
theorem err3 {g : Gr} {th : Int} {o : Op} (h : o.kd = 3) : errG g th o = if fde g th o = 0 then (if isP (hob g th o) o.i then rme g th else 8) else fde g th o := by unfold errG; rw [if_neg (by omega), if_neg (by omega), if_pos h]
theorem err5 {g : Gr} {th : Int} {o : Op} (h : o.kd = 5) : errG g th o = if fde g th o = 0 then (if isP (hob g th o) o.i then gte (rowOf g th) o.k else 8) else fde g th o := by unfold errG; rw [if_neg (by omega), if_neg (by omega), if_neg (by omega), if_pos h]
theorem err8 {g : Gr} {th : Int} {o : Op} (h : o.kd = 8) : errG g th o = if gte (rowOf g th) o.h = 0 then gte (rowOf g th) o.k else gte (rowOf g th) o.h := by unfold errG; rw [if_neg (by omega), if_neg (by omega), if_neg (by omega), if_neg (by omega), if_pos h]
theorem err9 {g : Gr} {th : Int} {o : Op} (h : o.kd = 9) : errG g th o = if gte (rowOf g th) o.h = 0 then rme g th else gte (rowOf g th) o.h := by unfold errG; rw [if_neg (by omega), if_neg (by omega), if_neg (by omega), if_neg (by omega), if_neg (by omega), if_pos h]
theorem err10 {g : Gr} {th : Int} {o : Op} (h : o.kd = 10) : errG g th o = if rowOf g th = [] then 9 else 0 := by unfold errG; rw [if_neg (by omega), if_neg (by omega), if_neg (by omega), if_neg (by omega), if_neg (by omega), if_neg (by omega), if_pos h]
theorem err11 {g : Gr} {th : Int} {o : Op} (h : o.kd = 11) : errG g th o = 0 := by unfold errG; rw [if_neg (by omega), if_neg (by omega), if_neg (by omega), if_neg (by omega), if_neg (by omega), if_neg (by omega), if_neg (by omega), if_pos h]
theorem errO {g : Gr} {th : Int} {o : Op} (h : o.kd < 1 ∨ 11 < o.kd) : errG g th o = 1 := by unfold errG; rw [if_neg (by omega), if_neg (by omega), if_neg (by omega), if_neg (by omega), if_neg (by omega), if_neg (by omega), if_neg (by omega), if_neg (by omega)]
/-- The field is there. -/
theorem fde_in {g : Gr} {th : Int} {o : Op} (h : fde g th o = 0) : gte (rowOf g th) o.h = 0 ∧ inN g (gtv (rowOf g th) o.h) ∧ 0 ≤ o.i ∧ o.i < (hob g th o).2.length := by
  unfold fde at h
  split at h
  · rename_i h1
    split at h
    · rename_i h2
      split at h
      · rename_i h3
        exact ⟨h1, h2, h3⟩
      · cases h
    · cases h
  · cases h
/-- How a graph is when something is done. -/
structure DoOk (g : Gr) (th : Int) (o : Op) : Prop where
  rg : Rg g
  n : g.1.length ≤ 1000000
  th : isTh g th
  v : U64 o.v
  m : U64 o.m
section
variable {base D : Nat} {g : Gr} {th : Int} {o : Op} {w : World}
theorem new_w (h : o.kd = 4 ∨ o.kd = 5 ∨ o.kd = 6 ∨ o.kd = 7) : newG g th o = setF g (gtv (rowOf g th) o.h) o.i.toNat (wrv g th o) := by
  unfold newG
  rw [if_neg (by omega), if_neg (by omega), if_pos h]
end

end Go.Proofs.YtddoljfkbkbfjaaGreat.G
/-! Of stage 15 -/
namespace Go.Proofs.YtddoljfkbkbfjaaGreat.G
open Go.Joins Go.ChangeShapes Go.WideShapes Go.ChangeAt Go.RowKit Go.Deep Go.Shelf Go.Maps
set_option linter.unusedVariables false
set_option linter.unusedSimpArgs false

def opv (o : Op) : Value := .agg #[.int .i64 o.kd, .int .i64 o.h, .int .i64 o.i, .int .i64 o.k, .int .u64 o.v, .int .i64 o.t, .int .i64 o.l, .int .u64 o.m]
def anv (a : An) : Value := .agg #[.int .i64 a.1, .int .u64 a.2.1, .bool a.2.2]
theorem OwnG.le {base b0 : Nat} {w : World} {vn vs : Value} {g : Gr} {us us2 : List Value} {BF GS BS : Nat} (h : OwnG base w vn vs g us us2 BF GS BS) (k : b0 ≤ base) : OwnG b0 w vn vs g us us2 BF GS BS :=
  ⟨own_le h.nodes k, ⟨h.flds.len, h.flds.row, fun q => by
    obtain ⟨h1, r⟩ := h.flds.blk q
    exact ⟨Nat.le_trans k h1, r⟩, h.flds.short⟩, h.val, h.grid, ⟨h.rows.len, h.rows.row, fun q => by
    obtain ⟨h1, r⟩ := h.rows.blk q
    exact ⟨Nat.le_trans k h1, r⟩, h.rows.short⟩, Nat.le_trans k h.ge, h.few⟩
/-- The end of a call that answers a graph and an answer, each in a block of its own. -/
theorem ret_do {fn : Func} {p q : Tmp} (h : fn.results = #[.cell p 49, .cell q 56]) (tmps : Array Value) (w : World) (G A : Nat) (a b x y z : Value)
    (hp : tmps.getD p undef = .pointer (some ⟨G, 0, none⟩)) (hG : Blk w G 49 #[a, b]) (hq : tmps.getD q undef = .pointer (some ⟨A, 0, none⟩)) (hA : Blk w A 56 #[x, y, z]) :
    (results fn tmps).run Tryz.prog w = .ok (.tuple #[.agg #[a, b], .agg #[x, y, z]]) w := by
  have hp' : tmps[p]?.getD undef = .pointer (some ⟨G, 0, none⟩) := by simpa using hp
  have hq' : tmps[q]?.getD undef = .pointer (some ⟨A, 0, none⟩) := by simpa using hq
  simp [results, h, hp', hq', asAddr, run_loadVar_row w G 49 49 _ _ _ hG Tryz.underlying49 rfl (by kernel_rfl), run_loadVar_row w A 56 56 _ _ _ hA Tryz.underlying56 rfl (by kernel_rfl)]
def DoPost (r : Gr × An) (w : World) (e : Ending) (w' : World) : Prop := ∃ v, e = .returned (.tuple #[v, anv r.2]) ∧ GrV w' v r.1 ∧ Up w w'
/-- The world in which the boxes of Do stand. -/
def Bxs (w : World) (va vb : Value) (o : Op) (W : World) : Prop := Blk W w.heap.size 49 #[va, vb] ∧ Blk W (w.heap.size + 1) 62 #[.int .i64 o.kd, .int .i64 o.h, .int .i64 o.i, .int .i64 o.k, .int .u64 o.v, .int .i64 o.t, .int .i64 o.l, .int .u64 o.m] ∧ Blk W (w.heap.size + 1 + 1) 49 #[.slice none 0 0, .slice none 0 0] ∧ Blk W (w.heap.size + 1 + 1 + 1) 56 #[.int .i64 0, .int .u64 0, .bool false] ∧ Up w W ∧ w.heap.size + 1 + 1 + 1 + 1 ≤ W.heap.size
theorem Bxs.kf {w W W' : World} {va vb : Value} {o : Op} (h : Bxs w va vb o W) (k : Kf (w.heap.size + 1 + 1 + 1 + 1) W W') : Bxs w va vb o W' := by
  obtain ⟨h1, h2, h3, h4, h5, h6⟩ := h
  have f : ∀ g t cs, g < w.heap.size + 1 + 1 + 1 + 1 → Blk W g t cs → Blk W' g t cs := fun g t cs hg hb => (k.old g hg hb.lt).trans hb
  exact ⟨f _ _ _ (by omega) h1, f _ _ _ (by omega) h2, f _ _ _ (by omega) h3, f _ _ _ (by omega) h4, k.below w h5 (by omega), Nat.le_trans h6 k.size⟩
theorem Bxs.up {w W W' : World} {va vb : Value} {o : Op} (h : Bxs w va vb o W) (u : Up W W') : Bxs w va vb o W' := h.kf (.of_up u)
theorem far16 {w : World} {g D : Nat} {t : TypeId} {cs : Array Value} (h : Blk w g t cs) (hne : g ≠ D) (u0 u1 u2 u3 u4 u5 u6 u7 u8 u9 u10 u11 u12 u13 u14 u15 : Value) : Blk ((((((((((((((((w.setCell ⟨D, 0, none⟩ u0).setCell ⟨D, 1, none⟩ u1).setCell ⟨D, 2, none⟩ u2).setCell ⟨D, 3, none⟩ u3).setCell ⟨D, 4, none⟩ u4).setCell ⟨D, 5, none⟩ u5).setCell ⟨D, 6, none⟩ u6).setCell ⟨D, 7, none⟩ u7).setCell ⟨D, 8, none⟩ u8).setCell ⟨D, 9, none⟩ u9).setCell ⟨D, 10, none⟩ u10).setCell ⟨D, 11, none⟩ u11).setCell ⟨D, 12, none⟩ u12).setCell ⟨D, 13, none⟩ u13).setCell ⟨D, 14, none⟩ u14).setCell ⟨D, 15, none⟩ u15) g t cs :=
  (((((((((((((((h.far (p := ⟨D, 0, none⟩) hne u0).far (p := ⟨D, 1, none⟩) hne u1).far (p := ⟨D, 2, none⟩) hne u2).far (p := ⟨D, 3, none⟩) hne u3).far (p := ⟨D, 4, none⟩) hne u4).far (p := ⟨D, 5, none⟩) hne u5).far (p := ⟨D, 6, none⟩) hne u6).far (p := ⟨D, 7, none⟩) hne u7).far (p := ⟨D, 8, none⟩) hne u8).far (p := ⟨D, 9, none⟩) hne u9).far (p := ⟨D, 10, none⟩) hne u10).far (p := ⟨D, 11, none⟩) hne u11).far (p := ⟨D, 12, none⟩) hne u12).far (p := ⟨D, 13, none⟩) hne u13).far (p := ⟨D, 14, none⟩) hne u14).far (p := ⟨D, 15, none⟩) hne u15
theorem zeroF (w : World) : (zeroValue 114).run Tryz.prog w = .ok .nilFunc w := by kernel_rfl
theorem set16 {w : World} {D : Nat} {t : TypeId} (z0 z1 z2 z3 z4 z5 z6 z7 z8 z9 z10 z11 z12 z13 z14 z15 u0 u1 u2 u3 u4 u5 u6 u7 u8 u9 u10 u11 u12 u13 u14 u15 : Value) (h : Blk w D t #[z0, z1, z2, z3, z4, z5, z6, z7, z8, z9, z10, z11, z12, z13, z14, z15]) : Blk ((((((((((((((((w.setCell ⟨D, 0, none⟩ u0).setCell ⟨D, 1, none⟩ u1).setCell ⟨D, 2, none⟩ u2).setCell ⟨D, 3, none⟩ u3).setCell ⟨D, 4, none⟩ u4).setCell ⟨D, 5, none⟩ u5).setCell ⟨D, 6, none⟩ u6).setCell ⟨D, 7, none⟩ u7).setCell ⟨D, 8, none⟩ u8).setCell ⟨D, 9, none⟩ u9).setCell ⟨D, 10, none⟩ u10).setCell ⟨D, 11, none⟩ u11).setCell ⟨D, 12, none⟩ u12).setCell ⟨D, 13, none⟩ u13).setCell ⟨D, 14, none⟩ u14).setCell ⟨D, 15, none⟩ u15) D t #[u0, u1, u2, u3, u4, u5, u6, u7, u8, u9, u10, u11, u12, u13, u14, u15] := by
  have := (Blk.set_ (Blk.set_ (Blk.set_ (Blk.set_ (Blk.set_ (Blk.set_ (Blk.set_ (Blk.set_ (Blk.set_ (Blk.set_ (Blk.set_ (Blk.set_ (Blk.set_ (Blk.set_ (Blk.set_ (Blk.set_ h 0 u0) 1 u1) 2 u2) 3 u3) 4 u4) 5 u5) 6 u6) 7 u7) 8 u8) 9 u9) 10 u10) 11 u11) 12 u12) 13 u13) 14 u14) 15 u15)
  simpa using this
theorem up16 {w0 w : World} {D : Nat} (h : Up w0 w) (hD : w0.heap.size ≤ D) (u0 u1 u2 u3 u4 u5 u6 u7 u8 u9 u10 u11 u12 u13 u14 u15 : Value) : Up w0 ((((((((((((((((w.setCell ⟨D, 0, none⟩ u0).setCell ⟨D, 1, none⟩ u1).setCell ⟨D, 2, none⟩ u2).setCell ⟨D, 3, none⟩ u3).setCell ⟨D, 4, none⟩ u4).setCell ⟨D, 5, none⟩ u5).setCell ⟨D, 6, none⟩ u6).setCell ⟨D, 7, none⟩ u7).setCell ⟨D, 8, none⟩ u8).setCell ⟨D, 9, none⟩ u9).setCell ⟨D, 10, none⟩ u10).setCell ⟨D, 11, none⟩ u11).setCell ⟨D, 12, none⟩ u12).setCell ⟨D, 13, none⟩ u13).setCell ⟨D, 14, none⟩ u14).setCell ⟨D, 15, none⟩ u15) := by
  exact (Up.setCell (Up.setCell (Up.setCell (Up.setCell (Up.setCell (Up.setCell (Up.setCell (Up.setCell (Up.setCell (Up.setCell (Up.setCell (Up.setCell (Up.setCell (Up.setCell (Up.setCell (Up.setCell h (p := ⟨D, 0, none⟩) hD u0) (p := ⟨D, 1, none⟩) hD u1) (p := ⟨D, 2, none⟩) hD u2) (p := ⟨D, 3, none⟩) hD u3) (p := ⟨D, 4, none⟩) hD u4) (p := ⟨D, 5, none⟩) hD u5) (p := ⟨D, 6, none⟩) hD u6) (p := ⟨D, 7, none⟩) hD u7) (p := ⟨D, 8, none⟩) hD u8) (p := ⟨D, 9, none⟩) hD u9) (p := ⟨D, 10, none⟩) hD u10) (p := ⟨D, 11, none⟩) hD u11) (p := ⟨D, 12, none⟩) hD u12) (p := ⟨D, 13, none⟩) hD u13) (p := ⟨D, 14, none⟩) hD u14) (p := ⟨D, 15, none⟩) hD u15)
theorem bxs16 {w W : World} {D : Nat} {va vb : Value} {o : Op} (h : Bxs w va vb o W) (hD : w.heap.size + 1 + 1 + 1 + 1 ≤ D) (u0 u1 u2 u3 u4 u5 u6 u7 u8 u9 u10 u11 u12 u13 u14 u15 : Value) : Bxs w va vb o ((((((((((((((((W.setCell ⟨D, 0, none⟩ u0).setCell ⟨D, 1, none⟩ u1).setCell ⟨D, 2, none⟩ u2).setCell ⟨D, 3, none⟩ u3).setCell ⟨D, 4, none⟩ u4).setCell ⟨D, 5, none⟩ u5).setCell ⟨D, 6, none⟩ u6).setCell ⟨D, 7, none⟩ u7).setCell ⟨D, 8, none⟩ u8).setCell ⟨D, 9, none⟩ u9).setCell ⟨D, 10, none⟩ u10).setCell ⟨D, 11, none⟩ u11).setCell ⟨D, 12, none⟩ u12).setCell ⟨D, 13, none⟩ u13).setCell ⟨D, 14, none⟩ u14).setCell ⟨D, 15, none⟩ u15) := by
  obtain ⟨h1, h2, h3, h4, h5, h6⟩ := h
  exact ⟨far16 h1 (by omega) u0 u1 u2 u3 u4 u5 u6 u7 u8 u9 u10 u11 u12 u13 u14 u15, far16 h2 (by omega) u0 u1 u2 u3 u4 u5 u6 u7 u8 u9 u10 u11 u12 u13 u14 u15, far16 h3 (by omega) u0 u1 u2 u3 u4 u5 u6 u7 u8 u9 u10 u11 u12 u13 u14 u15, far16 h4 (by omega) u0 u1 u2 u3 u4 u5 u6 u7 u8 u9 u10 u11 u12 u13 u14 u15, up16 h5 (by omega) u0 u1 u2 u3 u4 u5 u6 u7 u8 u9 u10 u11 u12 u13 u14 u15, by simpa using h6⟩
/-- The two boxes of the results, written. -/
theorem endG {w : World} {g a : Nat} {c0 c1 d0 d1 d2 x y p q r : Value} (h3 : Blk w g 49 #[c0, c1]) (h4 : Blk w a 56 #[d0, d1, d2]) : Blk (((((w.setCell ⟨g, 0, none⟩ x).setCell ⟨g, 1, none⟩ y).setCell ⟨a, 0, none⟩ p).setCell ⟨a, 1, none⟩ q).setCell ⟨a, 2, none⟩ r) g 49 #[x, y] := by
  have hne := h3.ne_type h4 (by decide)
  have := (h3.set_ 0 x).set_ 1 y
  exact ((Blk.far (p := ⟨a, 0, none⟩) (by simpa using this) hne p).far (p := ⟨a, 1, none⟩) hne q).far (p := ⟨a, 2, none⟩) hne r
theorem endA {w : World} {g a : Nat} {c0 c1 d0 d1 d2 x y p q r : Value} (h3 : Blk w g 49 #[c0, c1]) (h4 : Blk w a 56 #[d0, d1, d2]) : Blk (((((w.setCell ⟨g, 0, none⟩ x).setCell ⟨g, 1, none⟩ y).setCell ⟨a, 0, none⟩ p).setCell ⟨a, 1, none⟩ q).setCell ⟨a, 2, none⟩ r) a 56 #[p, q, r] := by
  have hne := h4.ne_type h3 (by decide)
  have := ((((h4.far (p := ⟨g, 0, none⟩) hne x).far (p := ⟨g, 1, none⟩) hne y).set_ 0 p).set_ 1 q).set_ 2 r
  simpa using this
theorem endR {T : TypeId → Prop} {P : World → Prop} {w : World} {g a : Nat} {c0 c1 d0 d1 d2 x y p q r : Value} (h : Rob T P w) (h3 : Blk w g 49 #[c0, c1]) (h4 : Blk w a 56 #[d0, d1, d2]) (n1 : ¬ T 49) (n2 : ¬ T 56) : Rob T P (((((w.setCell ⟨g, 0, none⟩ x).setCell ⟨g, 1, none⟩ y).setCell ⟨a, 0, none⟩ p).setCell ⟨a, 1, none⟩ q).setCell ⟨a, 2, none⟩ r).drew := by
  refine h.keep fun b t cs ht hb => Blk.drew ?_
  have e1 : b ≠ g := hb.ne_type h3 (fun e => n1 (e ▸ ht))
  have e2 : b ≠ a := hb.ne_type h4 (fun e => n2 (e ▸ ht))
  exact ((((hb.far (p := ⟨g, 0, none⟩) e1 x).far (p := ⟨g, 1, none⟩) e1 y).far (p := ⟨a, 0, none⟩) e2 p).far (p := ⟨a, 1, none⟩) e2 q).far (p := ⟨a, 2, none⟩) e2 r
theorem endU {w0 w : World} {x y p q r : Value} (h : Up w0 w) : Up w0 (((((w.setCell ⟨w0.heap.size + 1 + 1, 0, none⟩ x).setCell ⟨w0.heap.size + 1 + 1, 1, none⟩ y).setCell ⟨w0.heap.size + 1 + 1 + 1, 0, none⟩ p).setCell ⟨w0.heap.size + 1 + 1 + 1, 1, none⟩ q).setCell ⟨w0.heap.size + 1 + 1 + 1, 2, none⟩ r) :=
  ((((h.setCell (p := ⟨_, 0, none⟩) (by simp only []; omega) x).setCell (p := ⟨_, 1, none⟩) (by simp only []; omega) y).setCell (p := ⟨_, 0, none⟩) (by simp only []; omega) p).setCell (p := ⟨_, 1, none⟩) (by simp only []; omega) q).setCell (p := ⟨_, 2, none⟩) (by simp only []; omega) r

end Go.Proofs.YtddoljfkbkbfjaaGreat.G
/-! Of stage 15 -/
namespace Go.Proofs.YtddoljfkbkbfjaaGreat.G
open Go.Joins Go.ChangeShapes Go.WideShapes Go.ChangeAt Go.RowKit Go.Deep Go.Shelf Go.Maps
set_option linter.unusedVariables false
set_option linter.unusedSimpArgs false

/-- How many threads. -/
def thr (t : Int) : Nat := if t < 0 then 0 else if 16 < t then 16 else t.toNat
def nullG (t : Int) : Gr := ([], List.replicate (thr t) [])
theorem null_rows {w : World} {G n : Nat} (h : Blk w G 29 (List.replicate n (Value.slice none 0 0)).toArray) (hn : n ≤ 16) : Rw .i64 w (.slice (some ⟨G, 0, none⟩) n n) (List.replicate n []) :=
  ⟨List.replicate n (.slice none 0 0), _, n, by simp, by simp, by unfold maxLen; omega, fun q => (by cases q), rv_of_blk h (fun j v hj => by rw [List.getElem?_toArray]; exact hj), by simp, fun j u xs h1 h2 => by
    rw [List.eq_of_mem_replicate (List.mem_of_getElem? h1), List.eq_of_mem_replicate (List.mem_of_getElem? h2)]
    exact Sl.nil _ w⟩

end Go.Proofs.YtddoljfkbkbfjaaGreat.G
/-! Of stage 15 -/
namespace Go.Proofs.YtddoljfkbkbfjaaGreat.G
open Go.Joins Go.ChangeShapes Go.WideShapes Go.ChangeAt Go.RowKit Go.Deep Go.Shelf Go.Maps
set_option linter.unusedVariables false
set_option linter.unusedSimpArgs false

theorem rowOf_mem {g : Gr} {th x : Int} (h : x ∈ rowOf g th) : ∃ row ∈ g.2, x ∈ row := by
  unfold rowOf at h
  by_cases q : th.toNat < g.2.length
  · exact ⟨_, getD_mem [] q, h⟩
  · simp [List.getD, List.getElem?_eq_none (Nat.le_of_not_lt q)] at h
theorem push_rg {g : Gr} {th x : Int} (h : Rg g) (hx : 0 ≤ x ∧ x ≤ g.1.length) : Rg (pushG g th x) := by
  refine ⟨h.hd, h.mp, h.fu, h.pt, fun row hr y hy => ?_⟩
  rcases List.mem_or_eq_of_mem_set hr with q | q
  · exact h.hn row q y hy
  · subst q
    rcases List.mem_append.1 hy with q2 | q2
    · obtain ⟨row, h1, h2⟩ := rowOf_mem q2
      exact h.hn row h1 y h2
    · rw [List.mem_singleton.1 q2]; exact hx
theorem pop_rg {g : Gr} {th : Int} (h : Rg g) : Rg (popG g th) := by
  refine ⟨h.hd, h.mp, h.fu, h.pt, fun row hr y hy => ?_⟩
  rcases List.mem_or_eq_of_mem_set hr with q | q
  · exact h.hn row q y hy
  · subst q
    obtain ⟨row, h1, h2⟩ := rowOf_mem (List.dropLast_subset _ hy)
    exact h.hn row h1 y h2
theorem alloc_rg {g : Gr} {o : Op} (h : Rg g) (hok : okH o.t o.l o.m = true) (hm : U64 o.m) : Rg (allocN g o) := by
  have hl := okH_len hok
  have mem : ∀ n ∈ (allocN g o).1, n ∈ g.1 ∨ n = ((o.t, o.l, o.m), List.replicate o.l.toNat 0) := fun n hn => by
    rcases List.mem_append.1 hn with q | q
    · exact .inl q
    · exact .inr (List.mem_singleton.1 q)
  have hlen : (allocN g o).1.length = g.1.length + 1 := by simp [allocN]
  refine ⟨fun n hn => ?_, fun n hn => ?_, fun n hn x hx => ?_, fun n hn i hi hp => ?_, fun row hr y hy => ?_⟩
  · rcases mem n hn with q | q
    · exact h.hd n q
    · subst q; exact ⟨hok, by simp; omega⟩
  · rcases mem n hn with q | q
    · exact h.mp n q
    · subst q; exact hm
  · rcases mem n hn with q | q
    · exact h.fu n q x hx
    · subst q
      rw [List.eq_of_mem_replicate hx]
      exact ⟨by omega, by omega⟩
  · rw [hlen]
    rcases mem n hn with q | q
    · have := h.pt n q i hi hp
      omega
    · subst q
      have : (List.replicate o.l.toNat (0 : Int)).getD i 0 = 0 := by
        simp [List.getD, List.getElem?_replicate]
        split <;> rfl
      show (List.replicate o.l.toNat (0 : Int)).getD i 0 ≤ _
      rw [this]
      omega
  · rw [hlen]
    have := h.hn row hr y hy
    omega
theorem set_rg {g : Gr} {n v : Int} {i : Nat} (h : Rg g) (hin : inN g n) (hv : U64 v) (hp : isP (ndOf g n) i = true → v ≤ g.1.length) : Rg (setF g n i v) := by
  have mem : ∀ m ∈ (setF g n i v).1, m ∈ g.1 ∨ m = ((ndOf g n).1, (ndOf g n).2.set i v) := fun m hm => List.mem_or_eq_of_mem_set hm
  have hlen : (setF g n i v).1.length = g.1.length := by simp [setF]
  have hm := ndOf_mem hin
  refine ⟨fun m hm' => ?_, fun m hm' => ?_, fun m hm' x hx => ?_, fun m hm' j hj hpj => ?_, fun row hr y hy => by rw [hlen]; exact h.hn row hr y hy⟩
  · rcases mem m hm' with q | q
    · exact h.hd m q
    · subst q
      refine ⟨(h.hd _ hm).1, ?_⟩
      show (((ndOf g n).2.set i v).length : Int) = _
      rw [List.length_set]
      exact (h.hd _ hm).2
  · rcases mem m hm' with q | q
    · exact h.mp m q
    · subst q; exact h.mp (ndOf g n) hm
  · rcases mem m hm' with q | q
    · exact h.fu m q x hx
    · subst q
      rcases List.mem_or_eq_of_mem_set hx with q2 | q2
      · exact h.fu _ hm x q2
      · rw [q2]; exact hv
  · rw [hlen]
    rcases mem m hm' with q | q
    · exact h.pt m q j hj hpj
    · subst q
      have hj' : j < ((ndOf g n).2.set i v).length := hj
      rw [List.length_set] at hj'
      show ((ndOf g n).2.set i v).getD j 0 ≤ _
      by_cases e : i = j
      · subst e
        simp only [List.getD, List.getElem?_set_self hj', Option.getD_some]
        exact hp hpj
      · simp only [List.getD, List.getElem?_set_ne e]
        exact h.pt _ hm j hj' hpj
theorem scal_0 {g : Gr} {th : Int} {o : Op} (h : o.kd = 2 ∨ o.kd = 4 ∨ o.kd = 6 ∨ o.kd = 7) (he : errG g th o = 0) : fde g th o = 0 ∧ isP (hob g th o) o.i = false := by
  rw [errS h] at he
  split at he
  · rename_i q
    refine ⟨q, ?_⟩
    split at he
    · cases he
    · rename_i q2; simpa using q2
  · rename_i q; exact absurd he q
theorem pnt_3 {g : Gr} {th : Int} {o : Op} (h : o.kd = 3) (he : errG g th o = 0) : fde g th o = 0 ∧ isP (hob g th o) o.i = true ∧ rme g th = 0 := by
  rw [err3 h] at he
  split at he
  · rename_i q
    split at he
    · rename_i q2; exact ⟨q, q2, he⟩
    · cases he
  · rename_i q; exact absurd he q
theorem pnt_5 {g : Gr} {th : Int} {o : Op} (h : o.kd = 5) (he : errG g th o = 0) : fde g th o = 0 ∧ isP (hob g th o) o.i = true ∧ gte (rowOf g th) o.k = 0 := by
  rw [err5 h] at he
  split at he
  · rename_i q
    split at he
    · rename_i q2; exact ⟨q, q2, he⟩
    · cases he
  · rename_i q; exact absurd he q
theorem new_1 {g : Gr} {th : Int} {o : Op} (h : o.kd = 1) (he : errG g th o = 0) : okH o.t o.l o.m = true ∧ rme g th = 0 := by
  rw [err1 h] at he
  split at he
  · rename_i q; exact ⟨q, he⟩
  · cases he
theorem isP_nat {n : Nd} {i : Int} (h : 0 ≤ i) : isP n (i.toNat : Int) = isP n i := by rw [Int.toNat_of_nonneg h]
theorem addw_u (a b : Int) : U64 (Nm.addw a b) := by have := Nm.pk_bd (Nm.re a + Nm.re b) (Nm.im a + Nm.im b); unfold Nm.addw; exact ⟨this.1, by omega⟩
theorem mulw_u (a b : Int) : U64 (Nm.mulw a b) := by have := Nm.pk_bd (Nm.re a * Nm.re b - Nm.im a * Nm.im b) (Nm.re a * Nm.im b + Nm.im a * Nm.re b); unfold Nm.mulw; exact ⟨this.1, by omega⟩
/-- Where a write goes: the field is there; a pointer's word leads to a node. -/
theorem wr_ok {g : Gr} {th : Int} {o : Op} (hR : Rg g) (ht : isTh g th) (hn : g.1.length ≤ 1000000) (hv : U64 o.v) (h : o.kd = 4 ∨ o.kd = 5 ∨ o.kd = 6 ∨ o.kd = 7) (he : errG g th o = 0) :
    inN g (gtv (rowOf g th) o.h) ∧ U64 (wrv g th o) ∧ (isP (hob g th o) (o.i.toNat : Nat) = true → wrv g th o ≤ g.1.length) ∧ 0 ≤ o.i ∧ o.i < (hob g th o).2.length := by
  have hb := gtv_bd hR ht o.k
  have hu : U64 (wrv g th o) := by
    unfold wrv
    split
    · exact addw_u _ _
    · split
      · exact mulw_u _ _
      · split
        · exact ⟨hb.1, by omega⟩
        · exact hv
  by_cases h5 : o.kd = 5
  · obtain ⟨h1, h2, h3⟩ := pnt_5 h5 he
    obtain ⟨f1, f2, f3, f4⟩ := fde_in h1
    refine ⟨f2, hu, fun _ => ?_, f3, f4⟩
    unfold wrv
    rw [if_neg (by omega), if_neg (by omega), if_pos h5]
    exact hb.2
  · obtain ⟨h1, h2⟩ := scal_0 (by omega) he
    obtain ⟨f1, f2, f3, f4⟩ := fde_in h1
    refine ⟨f2, hu, fun q => ?_, f3, f4⟩
    rw [isP_nat f3, h2] at q
    cases q
theorem do_rg {g : Gr} {th : Int} {o : Op} (h : Rg g) (hn : g.1.length ≤ 1000000) (hv : U64 o.v) (hm : U64 o.m) : Rg (doG g th o).1 := by
  unfold doG
  split
  · rename_i ht
    split
    · rename_i he
      show Rg (newG g th o)
      unfold newG
      split
      · rename_i h1
        obtain ⟨q1, q2⟩ := new_1 h1 he
        exact push_rg (alloc_rg h q1 hm) (by simp [allocN]; omega)
      · split
        · rename_i h3
          obtain ⟨q1, q2, q3⟩ := pnt_3 h3 he
          obtain ⟨f1, f2, f3, f4⟩ := fde_in q1
          have hil : o.i.toNat < (hob g th o).2.length := by omega
          exact push_rg h ⟨(h.fu _ (ndOf_mem f2) _ (getD_mem 0 hil)).1, h.pt _ (ndOf_mem f2) _ hil (by rw [isP_nat f3]; exact q2)⟩
        · split
          · rename_i h4
            obtain ⟨w1, w2, w3, w4, w5⟩ := wr_ok h ht hn hv h4 he
            exact set_rg h w1 w2 w3
          · split
            · exact push_rg h (gtv_bd h ht _)
            · split
              · exact pop_rg h
              · exact h
    · exact h
  · exact h
theorem do_len {g : Gr} {th : Int} {o : Op} : (doG g th o).1.2.length = g.2.length ∧ g.1.length ≤ (doG g th o).1.1.length ∧ (doG g th o).1.1.length ≤ g.1.length + 1 := by
  unfold doG
  split
  · split
    · show (newG g th o).2.length = _ ∧ _ ≤ (newG g th o).1.length ∧ (newG g th o).1.length ≤ _
      unfold newG pushG allocN popG setF
      repeat' split
      all_goals simp
    · simp
  · simp
/-- An answer of an error alone. -/
theorem do_no {g : Gr} {th : Int} {o : Op} (h : (doG g th o).2.1 ≠ 0) : (doG g th o).1 = g ∧ (doG g th o).2 = ((doG g th o).2.1, 0, false) := by
  unfold doG at h ⊢
  split
  · rename_i ht
    rw [if_pos ht] at h
    split
    · rename_i he
      rw [if_pos he] at h
      exact absurd rfl h
    · exact ⟨rfl, rfl⟩
  · exact ⟨rfl, rfl⟩
theorem sum_set {L : List (List Int)} {j : Nat} {xs : List Int} {k : Nat} (h : xs.length ≤ (L.getD j []).length + k) : (L.set j xs).flatten.length ≤ L.flatten.length + k := by
  induction L generalizing j with
  | nil => simp
  | cons y r ih =>
    cases j with
    | zero =>
      simp only [List.set_cons_zero, List.flatten_cons, List.length_append]
      have : (y :: r).getD 0 [] = y := rfl
      rw [this] at h
      omega
    | succ j =>
      have := ih (j := j) (by simpa [List.getD] using h)
      simp only [List.set_cons_succ, List.flatten_cons, List.length_append]
      omega
theorem do_flat {g : Gr} {th : Int} {o : Op} : (doG g th o).1.2.flatten.length ≤ g.2.flatten.length + 1 := by
  have hp : ∀ (g : Gr) (x : Int), (pushG g th x).2.flatten.length ≤ g.2.flatten.length + 1 := fun g x => sum_set (by simp [rowOf])
  unfold doG
  split
  · split
    · show (newG g th o).2.flatten.length ≤ _
      unfold newG
      repeat' split
      · exact hp _ _
      · exact hp _ _
      · simp [setF]
      · exact hp _ _
      · exact sum_set (by simp [rowOf]; omega)
      · omega
    · simp
  · simp

end Go.Proofs.YtddoljfkbkbfjaaGreat.G
/-! Of stage 15 -/
namespace Go.Proofs.YtddoljfkbkbfjaaGreat.G
open Go.Joins Go.ChangeShapes Go.WideShapes Go.ChangeAt Go.RowKit Go.Deep Go.Shelf Go.Maps
set_option linter.unusedVariables false
set_option linter.unusedSimpArgs false

theorem GrV.form {w : World} {v : Value} {g : Gr} (h : GrV w v g) : ∃ A c B d, v = .agg #[.slice A g.1.length c, .slice B g.2.length d] ∧ g.1.length ≤ 9223372036854775807 ∧ g.2.length ≤ 9223372036854775807 := by
  obtain ⟨a, b, rfl, h1, h2⟩ := h
  obtain ⟨A, c, rfl, m1⟩ := h1.slice
  obtain ⟨B, d, rfl, m2⟩ := h2.slice
  unfold maxLen at m1 m2
  exact ⟨A, c, B, d, rfl, m1, m2⟩
/-- A graph with its answer comes. -/
def Dn (kn : List Nd) (ks : List (List Int)) (n s : Nat) (e x : Int) (y : Bool) (w : World) (en : Ending) (w' : World) : Prop :=
  ∃ A c B d, en = .returned (.tuple #[.agg #[.slice A n c, .slice B s d], .agg #[.int .i64 e, .int .u64 x, .bool y]]) ∧ GrV w' (.agg #[.slice A n c, .slice B s d]) (kn, ks) ∧ Up w w'
/-- A graph that may be gone on with. -/
structure Ok (g : Gr) : Prop where
  rg : Rg g
  n : g.1.length ≤ 1000
  s : g.2.length ≤ 200
  b : g.2.flatten.length ≤ 1048676
theorem eq_ans (a b : Int) (c : Bool) (x y : Int) (z : Bool) (w : World) : (binOp .eql 56 (.agg #[.int .i64 a, .int .u64 b, .bool c]) (.agg #[.int .i64 x, .int .u64 y, .bool z])).run Tryz.prog w = .ok (.bool (decide (a = x ∧ b = y ∧ c = z))) w := by
  rw [run_eql_struct, run_equalIn_agg _ _ _ _ _ (by rw [fieldsOf_of Tryz.underlying56]; exact Tryz.underlying56) (by kernel_rfl), fieldsOf_of Tryz.underlying56]
  simp [Op.eqFields, go_sem]
  by_cases h : a = x <;> by_cases k : b = y <;> cases c <;> cases z <;> simp [h, k]

end Go.Proofs.YtddoljfkbkbfjaaGreat.G
/-! Of stage 15 -/
namespace Go.Proofs.YtddoljfkbkbfjaaGreat.G
open Go.Joins Go.ChangeShapes Go.WideShapes Go.ChangeAt Go.RowKit Go.Deep Go.Shelf Go.Maps
set_option linter.unusedVariables false
set_option linter.unusedSimpArgs false

theorem do_ok {g : Gr} {th : Int} {o : Op} (h : (doG g th o).2.1 = 0) : isTh g th ∧ errG g th o = 0 ∧ doG g th o = (newG g th o, (0, ansV g th o, ansY g th o)) := by
  unfold doG at h ⊢
  by_cases ht : isTh g th
  · rw [if_pos ht] at h ⊢
    by_cases he : errG g th o = 0
    · rw [if_pos he]; exact ⟨ht, he, rfl⟩
    · rw [if_neg he] at h; exact absurd h he
  · rw [if_neg ht] at h
    cases h
theorem do_err {g : Gr} {th : Int} {o : Op} (h : (doG g th o).2.1 ≠ 0) : doG g th o = (g, ((doG g th o).2.1, 0, false)) := by
  obtain ⟨h1, h2⟩ := do_no h
  exact Prod.ext h1 h2
theorem do_yes {g : Gr} {th : Int} {o : Op} (ht : isTh g th) (he : errG g th o = 0) : doG g th o = (newG g th o, (0, ansV g th o, ansY g th o)) := by unfold doG; rw [if_pos ht, if_pos he]
theorem do_bad {g : Gr} {th : Int} {o : Op} (ht : isTh g th) (he : errG g th o ≠ 0) : doG g th o = (g, (errG g th o, 0, false)) := by unfold doG; rw [if_pos ht, if_neg he]
theorem row_set {g : Gr} {th : Int} (ht : isTh g th) (xs : List Int) (ns : List Nd) : rowOf (ns, g.2.set th.toNat xs) th = xs := by
  obtain ⟨h0, h1⟩ := ht
  have : th.toNat < g.2.length := by omega
  simp [rowOf, List.getD, List.getElem?_set_self this]
theorem row_push {g : Gr} {th x : Int} (ht : isTh g th) : rowOf (pushG g th x) th = rowOf g th ++ [x] := row_set ht _ _
theorem isTh_push {g : Gr} {th th' x : Int} : isTh (pushG g th x) th' ↔ isTh g th' := by simp [isTh, pushG]
theorem set_self {L : List (List Int)} {j : Nat} : L.set j (L.getD j []) = L := by
  apply List.ext_getElem?
  intro i
  by_cases e : j = i
  · subst e
    by_cases q : j < L.length
    · rw [List.getElem?_set_self q]; simp [List.getD, List.getElem?_eq_getElem q]
    · rw [List.getElem?_eq_none (by simpa using q), List.getElem?_eq_none (by simpa using q)]
  · rw [List.getElem?_set_ne e]
theorem pop_push {g : Gr} {th x : Int} (ht : isTh g th) : popG (pushG g th x) th = g := by
  unfold popG
  rw [row_push ht, List.dropLast_concat]
  show (g.1, (g.2.set th.toNat (rowOf g th ++ [x])).set th.toNat (rowOf g th)) = g
  rw [List.set_set]
  exact Prod.ext rfl set_self
theorem gte_in {xs : List Int} {h : Int} (k : gte xs h = 0) : 0 ≤ h ∧ h < xs.length := by
  unfold gte at k
  split at k
  · assumption
  · cases k
theorem gte_app {xs : List Int} {h x : Int} (k : gte xs h = 0) : gte (xs ++ [x]) h = 0 ∧ gtv (xs ++ [x]) h = gtv xs h := by
  obtain ⟨h0, h1⟩ := gte_in k
  unfold gte gtv
  rw [if_pos ⟨h0, by simp; omega⟩, if_pos ⟨h0, by simp; omega⟩, if_pos ⟨h0, h1⟩]
  refine ⟨rfl, ?_⟩
  have : h.toNat < xs.length := by omega
  simp [List.getD, List.getElem?_append_left this]
theorem gte_last {xs : List Int} {x : Int} : gte (xs ++ [x]) xs.length = 0 ∧ gtv (xs ++ [x]) xs.length = x := by
  unfold gte gtv
  have hl : 0 ≤ (xs.length : Int) ∧ (xs.length : Int) < ((xs ++ [x]).length : Int) := by rw [List.length_append]; simp; omega
  rw [if_pos hl, if_pos hl]
  exact ⟨rfl, by simp [List.getD]⟩
theorem same_of {g : Gr} {th h k : Int} (ht : isTh g th) (h1 : gte (rowOf g th) h = 0) (h2 : gte (rowOf g th) k = 0) : doG g th ⟨8, h, 0, k, 0, 0, 0, 0⟩ = (g, (0, 0, decide (gtv (rowOf g th) h = gtv (rowOf g th) k))) := by
  rw [do_yes ht (by rw [err8 rfl]; show (if gte (rowOf g th) h = 0 then gte (rowOf g th) k else gte (rowOf g th) h) = 0; rw [if_pos h1]; exact h2)]
  rfl
/-! ### Push and pop -/
theorem pops_1 {g : Gr} {th h : Int} (e : (doG g th ⟨9, h, 0, 0, 0, 0, 0, 0⟩).2.1 = 0) : isTh g th ∧ doG g th ⟨9, h, 0, 0, 0, 0, 0, 0⟩ = (pushG g th (gtv (rowOf g th) h), (0, 0, false)) ∧
    doG (pushG g th (gtv (rowOf g th) h)) th ⟨8, h, 0, (rowOf g th).length, 0, 0, 0, 0⟩ = (pushG g th (gtv (rowOf g th) h), (0, 0, true)) ∧ doG (pushG g th (gtv (rowOf g th) h)) th ⟨10, 0, 0, 0, 0, 0, 0, 0⟩ = (g, (0, 0, false)) := by
  obtain ⟨ht, he, hd⟩ := do_ok e
  have ht2 := (isTh_push (g := g) (th := th) (th' := th) (x := gtv (rowOf g th) h)).2 ht
  have hg : gte (rowOf g th) h = 0 := by
    rw [err9 rfl] at he
    change (if gte (rowOf g th) h = 0 then rme g th else gte (rowOf g th) h) = 0 at he
    by_cases q : gte (rowOf g th) h = 0
    · exact q
    · rw [if_neg q] at he; exact absurd he q
  refine ⟨ht, hd, ?_, ?_⟩
  · obtain ⟨a1, a2⟩ := gte_app (x := gtv (rowOf g th) h) hg
    obtain ⟨b1, b2⟩ := gte_last (xs := rowOf g th) (x := gtv (rowOf g th) h)
    rw [same_of ht2 (by rw [row_push ht]; exact a1) (by rw [row_push ht]; exact b1), row_push ht, a2, b2]
    simp
  · rw [do_yes ht2 (by rw [err10 rfl, row_push ht, if_neg (by simp)])]
    show (popG (pushG g th (gtv (rowOf g th) h)) th, _) = _
    rw [pop_push ht]
    rfl
/-! ### Write and get -/
theorem err_wr (g : Gr) (th h i v u : Int) : errG g th ⟨2, h, i, 0, u, 0, 0, 0⟩ = errG g th ⟨4, h, i, 0, v, 0, 0, 0⟩ := by
  rw [errS (.inl rfl), errS (.inr (.inl rfl))]
  rfl
theorem ndOf_set {g : Gr} {n v : Int} {i : Nat} (h : inN g n) : ndOf (setF g n i v) n = ((ndOf g n).1, (ndOf g n).2.set i v) := by
  obtain ⟨h0, h1⟩ := h
  have : n.toNat - 1 < g.1.length := by omega
  show ((g.1.set (n.toNat - 1) ((ndOf g n).1, (ndOf g n).2.set i v)).getD (n.toNat - 1) _) = _
  simp only [List.getD, List.getElem?_set_self this, Option.getD_some]
theorem inN_set {g : Gr} {n m v : Int} {i : Nat} : inN (setF g n i v) m ↔ inN g m := by simp [inN, setF]
theorem row_setF {g : Gr} {n v th : Int} {i : Nat} : rowOf (setF g n i v) th = rowOf g th := rfl
theorem isTh_set {g : Gr} {n v th : Int} {i : Nat} : isTh (setF g n i v) th ↔ isTh g th := Iff.rfl
/-- The field stays what it is where it is written. -/
theorem fde_set {g : Gr} {th h i v : Int} {o o' : Op} (ho : o.h = h ∧ o.i = i) (ho' : o'.h = h ∧ o'.i = i) (hf : fde g th o = 0) : fde (setF g (gtv (rowOf g th) h) i.toNat v) th o' = 0 ∧ (∀ k, isP (hob (setF g (gtv (rowOf g th) h) i.toNat v) th o') k = isP (hob g th o) k) ∧ fwd (setF g (gtv (rowOf g th) h) i.toNat v) th o' = v := by
  obtain ⟨f1, f2, f3, f4⟩ := fde_in hf
  obtain ⟨rfl, rfl⟩ := ho
  have e0 : hob (setF g (gtv (rowOf g th) o.h) o.i.toNat v) th o' = ((hob g th o).1, (hob g th o).2.set o.i.toNat v) := by
    show ndOf _ (gtv (rowOf g th) o'.h) = _
    rw [ho'.1]
    exact ndOf_set f2
  refine ⟨?_, fun k => by rw [e0]; rfl, ?_⟩
  · unfold fde
    rw [row_setF, ho'.1, if_pos f1, if_pos (inN_set.2 f2), ho'.2]
    have : (ndOf (setF g (gtv (rowOf g th) o.h) o.i.toNat v) (gtv (rowOf g th) o.h)).2.length = (hob g th o).2.length := by rw [ndOf_set f2]; simp
    rw [this, if_pos ⟨f3, f4⟩]
  · show (hob _ th o').2.getD o'.i.toNat 0 = v
    rw [e0, ho'.2]
    have : o.i.toNat < (hob g th o).2.length := by omega
    simp [List.getD, List.getElem?_set_self this]
theorem wrs_0 {g : Gr} {th h i v : Int} (e : (doG g th ⟨4, h, i, 0, v, 0, 0, 0⟩).2.1 ≠ 0) : doG g th ⟨4, h, i, 0, v, 0, 0, 0⟩ = (g, ((doG g th ⟨4, h, i, 0, v, 0, 0, 0⟩).2.1, 0, false)) ∧ doG g th ⟨2, h, i, 0, 0, 0, 0, 0⟩ = (g, ((doG g th ⟨4, h, i, 0, v, 0, 0, 0⟩).2.1, 0, false)) := by
  refine ⟨do_err e, ?_⟩
  unfold doG at e ⊢
  by_cases ht : isTh g th
  · rw [if_pos ht] at e ⊢
    rw [if_pos ht]
    rw [err_wr g th h i v 0]
    by_cases he : errG g th ⟨4, h, i, 0, v, 0, 0, 0⟩ = 0
    · rw [if_pos he] at e; exact absurd rfl e
    · rw [if_neg he, if_neg he]
  · rw [if_neg ht, if_neg ht]
theorem wrs_1 {g : Gr} {th h i v : Int} (e : (doG g th ⟨4, h, i, 0, v, 0, 0, 0⟩).2.1 = 0) : ∃ k m : Gr, doG g th ⟨4, h, i, 0, v, 0, 0, 0⟩ = (k, (0, 0, false)) ∧ doG k th ⟨2, h, i, 0, 0, 0, 0, 0⟩ = (k, (0, v, false)) ∧
    doG k th ⟨7, h, i, 0, 65536, 0, 0, 0⟩ = (m, (0, 0, false)) ∧ doG m th ⟨2, h, i, 0, 0, 0, 0, 0⟩ = (m, (0, v % 4294967296, false)) ∧ k.1.length = g.1.length ∧ m.1.length = g.1.length ∧ k.2 = g.2 ∧ m.2 = g.2 := by
  obtain ⟨ht, he, hd⟩ := do_ok e
  obtain ⟨s1, s2⟩ := scal_0 (.inr (.inl rfl)) he
  have f := fun (o' : Op) (ho' : o'.h = h ∧ o'.i = i) => fde_set (o := ⟨4, h, i, 0, v, 0, 0, 0⟩) (v := v) ⟨rfl, rfl⟩ ho' s1
  obtain ⟨a1, a2, a3⟩ := f ⟨2, h, i, 0, 0, 0, 0, 0⟩ ⟨rfl, rfl⟩
  obtain ⟨b1, b2, b3⟩ := f ⟨7, h, i, 0, 65536, 0, 0, 0⟩ ⟨rfl, rfl⟩
  refine ⟨setF g (gtv (rowOf g th) h) i.toNat v, setF (setF g (gtv (rowOf g th) h) i.toNat v) (gtv (rowOf g th) h) i.toNat (Nm.mulw v 65536), hd, ?_, ?_, ?_, by simp [setF], by simp [setF], rfl, rfl⟩
  · rw [do_yes (isTh_set.2 ht) (by rw [errS (.inl rfl), if_pos a1, a2]; show (if isP (hob g th ⟨4, h, i, 0, v, 0, 0, 0⟩) i = true then (8 : Int) else 0) = 0; rw [s2]; rfl)]
    show (_, ((0 : Int), fwd _ th _, _)) = _
    rw [a3]
    rfl
  · rw [do_yes (isTh_set.2 ht) (by rw [errS (.inr (.inr (.inr rfl))), if_pos b1, b2]; show (if isP (hob g th ⟨4, h, i, 0, v, 0, 0, 0⟩) i = true then (8 : Int) else 0) = 0; rw [s2]; rfl)]
    show (setF _ _ _ (Nm.mulw (fwd _ th _) 65536), _) = _
    rw [b3]
    rfl
  · obtain ⟨c1, c2, c3⟩ := fde_set (g := setF g (gtv (rowOf g th) h) i.toNat v) (th := th) (h := h) (i := i) (v := Nm.mulw v 65536) (o := ⟨7, h, i, 0, 65536, 0, 0, 0⟩) (o' := ⟨2, h, i, 0, 0, 0, 0, 0⟩) ⟨rfl, rfl⟩ ⟨rfl, rfl⟩ b1
    rw [row_setF] at c1 c2 c3
    rw [do_yes (isTh_set.2 (isTh_set.2 ht)) (by rw [errS (.inl rfl), if_pos c1, c2, b2]; show (if isP (hob g th ⟨4, h, i, 0, v, 0, 0, 0⟩) i = true then (8 : Int) else 0) = 0; rw [s2]; rfl)]
    show (_, ((0 : Int), fwd _ th _, _)) = _
    rw [c3, show (65536 : Int) = Nm.pk 1 0 from by decide, Nm.mul_1, Nm.nrm_eq]
    rfl
/-! ### Link and follow -/
theorem links_1 {g : Gr} {th h i k : Int} (e : (doG g th ⟨5, h, i, k, 0, 0, 0, 0⟩).2.1 = 0) : ∃ a : Gr, doG g th ⟨5, h, i, k, 0, 0, 0, 0⟩ = (a, (0, 0, false)) ∧ a.1.length = g.1.length ∧ a.2 = g.2 ∧ isTh g th ∧
    (doG a th ⟨3, h, i, 0, 0, 0, 0, 0⟩ = (a, (4, 0, false)) ∨
      ∃ b : Gr, doG a th ⟨3, h, i, 0, 0, 0, 0, 0⟩ = (b, (0, 0, false)) ∧ b.1.length = g.1.length ∧ b.2.length = g.2.length ∧ (rowOf b th).length = (rowOf g th).length + 1 ∧ (rowOf g th).length < 16 ∧ doG b th ⟨8, (rowOf g th).length, 0, k, 0, 0, 0, 0⟩ = (b, (0, 0, true))) := by
  obtain ⟨ht, he, hd⟩ := do_ok e
  obtain ⟨s1, s2, s3⟩ := pnt_5 rfl he
  obtain ⟨a1, a2, a3⟩ := fde_set (g := g) (th := th) (h := h) (i := i) (o := ⟨5, h, i, k, 0, 0, 0, 0⟩) (o' := ⟨3, h, i, 0, 0, 0, 0, 0⟩) (v := gtv (rowOf g th) k) ⟨rfl, rfl⟩ ⟨rfl, rfl⟩ s1
  refine ⟨setF g (gtv (rowOf g th) h) i.toNat (gtv (rowOf g th) k), hd, by simp [setF], rfl, ht, ?_⟩
  have e3 : errG (setF g (gtv (rowOf g th) h) i.toNat (gtv (rowOf g th) k)) th ⟨3, h, i, 0, 0, 0, 0, 0⟩ = rme g th := by
    rw [err3 rfl, if_pos a1, a2]
    show (if isP (hob g th ⟨5, h, i, k, 0, 0, 0, 0⟩) i = true then rme g th else 8) = _
    rw [if_pos s2]
  by_cases q : (rowOf g th).length < 16
  · right
    have e0 : rme g th = 0 := by unfold rme; rw [if_pos q]
    refine ⟨pushG (setF g (gtv (rowOf g th) h) i.toNat (gtv (rowOf g th) k)) th (gtv (rowOf g th) k), ?_, by simp [pushG, setF], by simp [pushG, setF], ?_, q, ?_⟩
    · rw [do_yes (isTh_set.2 ht) (e3.trans e0)]
      show (pushG _ th (fwd _ th _), _) = _
      rw [a3]
      rfl
    · rw [row_push (isTh_set.2 ht), row_setF]; simp
    · obtain ⟨b1, b2⟩ := gte_app (x := gtv (rowOf g th) k) s3
      obtain ⟨c1, c2⟩ := gte_last (xs := rowOf g th) (x := gtv (rowOf g th) k)
      rw [same_of ((isTh_push (x := gtv (rowOf g th) k)).2 (isTh_set.2 ht)) (by rw [row_push (isTh_set.2 ht), row_setF]; exact c1) (by rw [row_push (isTh_set.2 ht), row_setF]; exact b1), row_push (isTh_set.2 ht), row_setF, c2, b2]
      simp
  · left
    have e0 : rme g th = 4 := by unfold rme; rw [if_neg q]
    rw [do_bad (isTh_set.2 ht) (by rw [e3, e0]; decide), e3, e0]
/-! ### A new object -/
theorem fresh_nd {g : Gr} {th : Int} {o : Op} : ndOf (pushG (allocN g o) th (g.1.length + 1)) (g.1.length + 1) = ((o.t, o.l, o.m), List.replicate o.l.toNat 0) := by
  have : ((g.1.length : Int) + 1).toNat - 1 = g.1.length := by omega
  show ((g.1 ++ [((o.t, o.l, o.m), List.replicate o.l.toNat 0)]).getD (((g.1.length : Int) + 1).toNat - 1) _) = _
  rw [this]
  simp [List.getD]
theorem rep_0 (n j : Nat) : (List.replicate n (0 : Int)).getD j 0 = 0 := by
  simp [List.getD, List.getElem?_replicate]
  split <;> rfl
theorem fresh_1 {g : Gr} {th t l m i h : Int} (hR : Rg g) (e : (doG g th ⟨1, 0, 0, 0, 0, t, l, m⟩).2.1 = 0) : ∃ a : Gr, doG g th ⟨1, 0, 0, 0, 0, t, l, m⟩ = (a, (0, 0, false)) ∧ a.1.length = g.1.length + 1 ∧ a.2.length = g.2.length ∧ isTh g th ∧ (rowOf g th).length < 16 ∧
    (∃ e1, doG a th ⟨8, h, 0, (rowOf g th).length, 0, 0, 0, 0⟩ = (a, (e1, 0, decide (h = (rowOf g th).length)))) ∧ (∃ e2, doG a th ⟨2, (rowOf g th).length, i, 0, 0, 0, 0, 0⟩ = (a, (e2, 0, false))) ∧
    ((∃ e3, e3 ≠ 0 ∧ doG a th ⟨3, (rowOf g th).length, i, 0, 0, 0, 0, 0⟩ = (a, (e3, 0, false))) ∨
      ∃ b : Gr, doG a th ⟨3, (rowOf g th).length, i, 0, 0, 0, 0, 0⟩ = (b, (0, 0, false)) ∧ b.1.length = g.1.length + 1 ∧ b.2.length = g.2.length ∧ (rowOf b th).length = (rowOf g th).length + 2 ∧ (rowOf b th).getD ((rowOf g th).length + 1) 0 = 0) := by
  obtain ⟨ht, he, hd⟩ := do_ok e
  obtain ⟨q1, q2⟩ := new_1 rfl he
  have q3 : (rowOf g th).length < 16 := by
    unfold rme at q2
    split at q2
    · assumption
    · cases q2
  have hr : rowOf (allocN g ⟨1, 0, 0, 0, 0, t, l, m⟩) th = rowOf g th := rfl
  have ht1 : isTh (allocN g ⟨1, 0, 0, 0, 0, t, l, m⟩) th := ht
  have ht2 : isTh (pushG (allocN g ⟨1, 0, 0, 0, 0, t, l, m⟩) th (g.1.length + 1)) th := isTh_push.2 ht1
  have hrow : rowOf (pushG (allocN g ⟨1, 0, 0, 0, 0, t, l, m⟩) th (g.1.length + 1)) th = rowOf g th ++ [((g.1.length : Int) + 1)] := by rw [row_push ht1, hr]
  obtain ⟨c1, c2⟩ := gte_last (xs := rowOf g th) (x := (g.1.length : Int) + 1)
  have hbd := fun j => gtv_bd hR ht j
  refine ⟨pushG (allocN g ⟨1, 0, 0, 0, 0, t, l, m⟩) th (g.1.length + 1), hd, by simp [pushG, allocN], by simp [pushG, allocN], ht, q3, ?_, ?_, ?_⟩
  · by_cases q : gte (rowOf g th ++ [((g.1.length : Int) + 1)]) h = 0
    · refine ⟨0, ?_⟩
      rw [same_of ht2 (by rw [hrow]; exact q) (by rw [hrow]; exact c1), hrow, c2]
      congr 3
      rw [decide_eq_decide]
      obtain ⟨h0, h1⟩ := gte_in q
      rw [List.length_append] at h1
      simp only [List.length_cons, List.length_nil, Nat.zero_add] at h1
      constructor
      · intro hh
        by_cases q5 : h < (rowOf g th).length
        · have hg : gte (rowOf g th) h = 0 := by unfold gte; rw [if_pos ⟨h0, q5⟩]
          rw [(gte_app hg).2] at hh
          have := hbd h
          omega
        · omega
      · intro hh
        subst hh
        exact c2
    · have hne : h ≠ (rowOf g th).length := fun q5 => by
        subst q5
        exact q c1
      refine ⟨gte (rowOf g th ++ [((g.1.length : Int) + 1)]) h, ?_⟩
      have e8 : errG (pushG (allocN g ⟨1, 0, 0, 0, 0, t, l, m⟩) th (g.1.length + 1)) th ⟨8, h, 0, (rowOf g th).length, 0, 0, 0, 0⟩ = gte (rowOf g th ++ [((g.1.length : Int) + 1)]) h := by
        rw [err8 rfl, hrow]
        exact if_neg q
      rw [do_bad ht2 (by rw [e8]; exact q), e8, decide_eq_false hne]
  · by_cases q : errG (pushG (allocN g ⟨1, 0, 0, 0, 0, t, l, m⟩) th (g.1.length + 1)) th ⟨2, (rowOf g th).length, i, 0, 0, 0, 0, 0⟩ = 0
    · refine ⟨0, ?_⟩
      rw [do_yes ht2 q]
      show (_, ((0 : Int), (ndOf _ (gtv (rowOf _ th) (rowOf g th).length)).2.getD i.toNat 0, _)) = _
      rw [hrow, c2, fresh_nd, rep_0]
      rfl
    · exact ⟨_, do_bad ht2 q⟩
  · by_cases q : errG (pushG (allocN g ⟨1, 0, 0, 0, 0, t, l, m⟩) th (g.1.length + 1)) th ⟨3, (rowOf g th).length, i, 0, 0, 0, 0, 0⟩ = 0
    · right
      refine ⟨pushG (pushG (allocN g ⟨1, 0, 0, 0, 0, t, l, m⟩) th (g.1.length + 1)) th 0, ?_, by simp [pushG, allocN], by simp [pushG, allocN], ?_, ?_⟩
      · rw [do_yes ht2 q]
        show (pushG _ th ((ndOf _ (gtv (rowOf _ th) (rowOf g th).length)).2.getD i.toNat 0), _) = _
        rw [hrow, c2, fresh_nd, rep_0]
        rfl
      · rw [row_push ht2, hrow]; simp
      · rw [row_push ht2, hrow]; simp [List.getD]
    · exact .inl ⟨_, q, do_bad ht2 q⟩
/-! ### The threads' rows -/
theorem row_ne {g : Gr} {ns : List Nd} {th j : Int} {xs : List Int} (h0 : 0 ≤ th) (h1 : 0 ≤ j) (h : j ≠ th) : rowOf (ns, g.2.set th.toNat xs) j = rowOf g j := by
  have : th.toNat ≠ j.toNat := by omega
  simp [rowOf, List.getD, List.getElem?_set_ne this]
theorem row_near {g : Gr} {ns : List Nd} {th j : Int} {xs : List Int} (ht : isTh g th) (h1 : 0 ≤ j) (h2 : xs.length ≤ (rowOf g th).length + 1) (h3 : (rowOf g th).length ≤ xs.length + 1) : (rowOf (ns, g.2.set th.toNat xs) j).length ≤ (rowOf g j).length + 1 ∧ (rowOf g j).length ≤ (rowOf (ns, g.2.set th.toNat xs) j).length + 1 := by
  by_cases e : j = th
  · subst e
    rw [row_set ht]
    exact ⟨h2, h3⟩
  · rw [row_ne ht.1 h1 e]
    omega
theorem do_rows {g : Gr} {th : Int} {o : Op} {j : Int} (hj : 0 ≤ j) : ((rowOf (doG g th o).1 j).length ≤ (rowOf g j).length + 1 ∧ (rowOf g j).length ≤ (rowOf (doG g th o).1 j).length + 1) ∧
    (j ≠ th ∨ (o.kd = 4 ∨ o.kd = 5 ∨ o.kd = 6 ∨ o.kd = 7 ∨ o.kd = 2 ∨ o.kd = 8) → rowOf (doG g th o).1 j = rowOf g j) := by
  unfold doG
  split
  · rename_i ht
    split
    · show ((rowOf (newG g th o) j).length ≤ _ ∧ _ ≤ (rowOf (newG g th o) j).length + 1) ∧ (_ → rowOf (newG g th o) j = _)
      unfold newG
      split
      · rename_i q
        exact ⟨row_near (g := allocN g o) ht hj (by simp) (by simp; omega), fun h => row_ne (g := allocN g o) ht.1 hj (by omega)⟩
      · split
        · exact ⟨row_near ht hj (by simp) (by simp; omega), fun h => row_ne ht.1 hj (by omega)⟩
        · split
          · exact ⟨⟨by rw [row_setF]; omega, by rw [row_setF]; omega⟩, fun _ => row_setF⟩
          · split
            · exact ⟨row_near ht hj (by simp) (by simp; omega), fun h => row_ne ht.1 hj (by omega)⟩
            · split
              · exact ⟨row_near ht hj (by simp; omega) (by simp; omega), fun h => row_ne ht.1 hj (by omega)⟩
              · exact ⟨⟨by omega, by omega⟩, fun _ => rfl⟩
    · exact ⟨⟨by simp, by simp⟩, fun _ => rfl⟩
  · exact ⟨⟨by simp, by simp⟩, fun _ => rfl⟩

end Go.Proofs.YtddoljfkbkbfjaaGreat.G
/-! Of stage 15 -/
namespace Go.Proofs.YtddoljfkbkbfjaaGreat.G
open Go.Joins Go.ChangeShapes Go.WideShapes Go.ChangeAt Go.RowKit Go.Deep Go.Shelf Go.Maps
set_option linter.unusedVariables false
set_option linter.unusedSimpArgs false

structure Okk (j : Nat) (g : Gr) : Prop where
  rg : Rg g
  n : g.1.length ≤ 60 + j
  s : g.2.length ≤ 200
  b : g.2.flatten.length ≤ 1048576 + j
theorem Okk.ok {g : Gr} {j : Nat} (h : Okk j g) (hj : j ≤ 40) : Ok g := ⟨h.rg, by have := h.n; omega, h.s, by have := h.b; omega⟩
theorem Okk.step {g : Gr} {j : Nat} (h : Okk j g) (hj : j ≤ 40) (th : Int) (o : Op) (hv : U64 o.v) (hm : U64 o.m) : Okk (j + 1) (doG g th o).1 := by
  obtain ⟨l1, l2, l3⟩ := do_len (g := g) (th := th) (o := o)
  have := h.n
  have := h.s
  have := h.b
  have := do_flat (g := g) (th := th) (o := o)
  exact ⟨do_rg h.rg (by omega) hv hm, by omega, by omega, by omega⟩
theorem GrV.row_at {w : World} {A B : Option Addr} {n c s d : Nat} {g : Gr} {j : Nat} (h : GrV w (.agg #[.slice A n c, .slice B s d]) g) (hj : j < g.2.length) : ∃ p P q, B = some p ∧ w.cell? (p.add j) = some (.slice P (rowOf g j).length q) ∧ p.block < w.heap.size ∧ Sl .i64 w (.slice P (rowOf g j).length q) (rowOf g j) := by
  obtain ⟨a, b, e, -, h2⟩ := h
  simp only [Value.agg.injEq] at e
  obtain ⟨-, rfl⟩ := Prod.mk.inj (show ((_ : Value), (_ : Value)) = (_, _) from by
    have := congrArg Array.toList e
    simp only [List.cons.injEq, and_true] at this
    exact Prod.ext this.1 this.2)
  have hs := h2.len
  obtain ⟨p, u, rfl, hc, hr⟩ := h2.at_ (x := j) (by omega)
  obtain ⟨P, q, rfl⟩ := hr.slice
  exact ⟨p, P, q, rfl, hc, by have := lt_of_cell hc; rwa [block_of_add] at this, hr⟩
theorem i64k (k : Nat) (h : k ≤ 11) : I64 (k : Int) := by unfold I64; omega
theorem u640 : U64 0 := by unfold U64; decide

end Go.Proofs.YtddoljfkbkbfjaaGreat.G
