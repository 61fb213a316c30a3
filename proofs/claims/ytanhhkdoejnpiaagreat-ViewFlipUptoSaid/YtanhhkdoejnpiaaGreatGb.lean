/- Graphs, plainly. -/
import Derived.Test.YtanhhkdoejnpiaaGreatGa
import Derived.Deep.RegionLaw
/-! Of stage 15 -/
namespace Go.Proofs.YtanhhkdoejnpiaaGreat.G
open Go.Joins Go.ChangeShapes Go.WideShapes Go.ChangeAt Go.RowKit Go.Deep Go.Shelf Go.Maps
set_option linter.unusedVariables false
set_option linter.unusedSimpArgs false

/-- What a thread does. -/
structure Op where
  kd : Int
  h : Int
  i : Int
  k : Int
  v : Int
  t : Int
  l : Int
  m : Int
/-- What a deed knows: the handles H and K, the answer. -/
structure Kn where
  h : Int
  k : Int
  e : Int
  v : Int
  y : Bool
/-- Which one, and why none. -/
def gte (xs : List Int) (h : Int) : Int := if 0 ≤ h ∧ h < xs.length then 0 else 5
def gtv (xs : List Int) (h : Int) : Int := if 0 ≤ h ∧ h < xs.length then xs.getD h.toNat 0 else 0
abbrev Qt (v : Value) (w : World) (e : Ending) (w' : World) : Prop := e = .returned v ∧ ∃ m, w' = w.drewN m

/-- A thread's handles. -/
def rowOf (g : Gr) (th : Int) : List Int := g.2.getD th.toNat []
def inN (g : Gr) (n : Int) : Prop := 1 ≤ n ∧ n ≤ g.1.length
instance (g : Gr) (n : Int) : Decidable (inN g n) := by unfold inN; infer_instance
def ndOf (g : Gr) (n : Int) : Nd := g.1.getD (n.toNat - 1) ((0, 0, 0), [])
/-- There is such a thread. -/
def isTh (g : Gr) (th : Int) : Prop := 0 ≤ th ∧ th < g.2.length
theorem OwnG.row {base : Nat} {w : World} {vn vs : Value} {g : Gr} {us us2 : List Value} {BF GS BS : Nat} (h : OwnG base w vn vs g us us2 BF GS BS) {th : Int} (ht : isTh g th) :
    ∃ A, us2[th.toNat]? = some (.slice A (rowOf g th).length (rowOf g th).length) ∧ Sl .i64 w (.slice A (rowOf g th).length (rowOf g th).length) (rowOf g th) := by
  obtain ⟨h0, h1⟩ := ht
  have hj : th.toNat < g.2.length := by omega
  have hju : th.toNat < us2.length := by rw [h.rows.len]; exact hj
  have hgr : g.2[th.toNat]? = some (rowOf g th) := by simp [rowOf, List.getD, List.getElem?_eq_getElem hj]
  obtain ⟨A, e, e2, e3⟩ := h.rows.row _ _ _ (List.getElem?_eq_getElem hju) hgr
  have hu := List.getElem?_eq_getElem hju
  rw [e] at hu
  exact ⟨A, hu, h.rows.gd.2 _ _ _ hu hgr⟩

end Go.Proofs.YtanhhkdoejnpiaaGreat.G
/-! Of stage 15 -/
namespace Go.Proofs.YtanhhkdoejnpiaaGreat.G
open Go.Joins Go.ChangeShapes Go.WideShapes Go.ChangeAt Go.RowKit Go.Deep Go.Shelf Go.Maps
set_option linter.unusedVariables false
set_option linter.unusedSimpArgs false

theorem Qt.u {P : Program} {f : FuncId} {args : Array Value} {v : Value} {w w' : World} (h : Calls P f args w (Qt v w')) (k : w' = w) : Calls P f args w fun e w'' => e = .returned v ∧ Up w w'' := h.mono fun e w'' ⟨h1, m, h2⟩ => ⟨h1, by rw [h2, k]; exact (Up.refl _).drewN _⟩
theorem Qt.q {P : Program} {f : FuncId} {args : Array Value} {v : Value} {w : World} {m : Nat} (h : Calls P f args (w.drewN m) (Qt v (w.drewN m))) : Calls P f args (w.drewN m) fun e w' => e = .returned v ∧ ∃ n, w' = w.drewN n :=
  h.mono fun e w' ⟨h1, k, h2⟩ => ⟨h1, m + k, by rw [h2, World.drewN_drewN]⟩
/-- Is a node's field a pointer? -/
def isP (n : Nd) (i : Int) : Bool := ptb n.1.2.1 n.1.2.2 i
/-- Heads' words are words. -/
def MapOk (g : Gr) : Prop := ∀ n ∈ g.1, 0 ≤ n.1.2.2 ∧ n.1.2.2 ≤ 18446744073709551615
theorem MapOk.nd {g : Gr} (h : MapOk g) {n : Int} (hn : inN g n) : 0 ≤ (ndOf g n).1.2.2 ∧ (ndOf g n).1.2.2 ≤ 18446744073709551615 := by
  obtain ⟨h0, h1⟩ := hn
  refine h _ ?_
  unfold ndOf
  have : n.toNat - 1 < g.1.length := by omega
  simp [List.getD, List.getElem?_eq_getElem this]

end Go.Proofs.YtanhhkdoejnpiaaGreat.G
/-! Of stage 15 -/
namespace Go.Proofs.YtanhhkdoejnpiaaGreat.G
open Go.Joins Go.ChangeShapes Go.WideShapes Go.ChangeAt Go.RowKit Go.Deep Go.Shelf Go.Maps
set_option linter.unusedVariables false
set_option linter.unusedSimpArgs false

/-- What holds wherever the blocks of some types are as they are here. -/
def Rob (T : TypeId → Prop) (P : World → Prop) (w : World) : Prop := ∀ w', (∀ b t cs, T t → Blk w b t cs → Blk w' b t cs) → P w'
theorem Rob.out {T : TypeId → Prop} {P : World → Prop} {w : World} (h : Rob T P w) : P w := h w (fun _ _ _ _ hb => hb)
theorem Rob.keep {T : TypeId → Prop} {P : World → Prop} {w w' : World} (h : Rob T P w) (k : ∀ b t cs, T t → Blk w b t cs → Blk w' b t cs) : Rob T P w' := fun w'' k' => h w'' (fun b t cs ht hb => k' b t cs ht (k b t cs ht hb))
theorem Rob.up {T : TypeId → Prop} {P : World → Prop} {w w' : World} (h : Rob T P w) (u : Up w w') : Rob T P w' := h.keep fun _ _ _ _ hb => hb.up u
theorem Rob.set_ {T : TypeId → Prop} {P : World → Prop} {w : World} {b : Nat} {t : TypeId} {cs : Array Value} (h : Rob T P w) (hb : Blk w b t cs) (hn : ¬ T t) (i : Nat) (u : Value) : Rob T P (w.setCell ⟨b, i, none⟩ u) :=
  h.keep fun _ _ _ ht hc => hc.far (p := ⟨b, i, none⟩) (hc.ne_type hb (fun e => hn (e ▸ ht))) u
def tInt (t : TypeId) : Prop := t = 3
theorem own_keep {w w' : World} {n₀ : Nat} {e : TypeId} {size n : Nat} {v : Value} {xs : List Value} (h : w.ownsRow n₀ e size v n xs) (k : ∀ b cs, Blk w b e cs → Blk w' b e cs) : w'.ownsRow n₀ e size v n xs :=
  ⟨h.1, h.2.imp id fun ⟨g, cap, cur, h1, h2, h3, r⟩ => ⟨g, cap, cur, h1, h2, k g cur h3, r⟩⟩
theorem Ct.keep {k : IntKind} {e : TypeId} {base : Nat} {w w' : World} {us : List Value} {L : List (List Int)} {B : Nat} (h : Ct k e base w us L B) (hk : ∀ g cs, Blk w g e cs → Blk w' g e cs) : Ct k e base w' us L B :=
  ⟨h.len, h.row, fun q => by
    obtain ⟨h1, cs, h2, h3⟩ := h.blk q
    exact ⟨h1, cs, hk _ _ h2, h3⟩, h.short⟩
def pushG (g : Gr) (th h : Int) : Gr := (g.1, g.2.set th.toNat (rowOf g th ++ [h]))


end Go.Proofs.YtanhhkdoejnpiaaGreat.G
/-! Of stage 15 -/
namespace Go.Proofs.YtanhhkdoejnpiaaGreat.G
open Go.Joins Go.ChangeShapes Go.WideShapes Go.ChangeAt Go.RowKit Go.Deep Go.Shelf Go.Maps
set_option linter.unusedVariables false
set_option linter.unusedSimpArgs false

/-- An object's head. -/
def okH (t l m : Int) : Bool := decide (rte t l m = 0) && decide (t ≠ 255)
theorem rte_len {t l m : Int} (h : rte t l m = 0) (ht : t ≠ 255) : 0 ≤ l ∧ l ≤ 16 := by
  unfold rte at h
  split at h
  · omega
  · split at h
    · omega
    · omega
def allocN (g : Gr) (o : Op) : Gr := (g.1 ++ [((o.t, o.l, o.m), List.replicate o.l.toNat 0)], g.2)
/-- A row of nodes of the call's own takes one more. -/
theorem step_node {W0 w : World} {ops : Array Oper} {o : Oper} {a : Act} {K : Act → World → Prop} {Q : Exit → Act → World → Prop} {F : Prop} (hgd : o.guard = none) (s x : Operand) (ho : o.op = .call { callee := .builtin .append, args := #[s, x], argTypes := #[27, 27] })
    (base n : Nat) (v : Value) (xs : List Value) (hs : a.eval s = v) (hx : w.ownsRow base 71 4 v n xs) (B c : Nat) (t l m u : Value) (hB : a.eval x = .slice (some ⟨B, 0, none⟩) 1 c) (hy : Blk w B 71 #[t, l, m, u]) (h1 : ∀ z ∈ [t, l, m, u], z.oneCell' = true) (hb : n ≤ 1048576) (hbase : base ≤ w.heap.size)
    (h : ∀ A' c' w', w'.ownsRow base 71 4 (.slice A' (n + 1) c') (n + 1) (xs ++ [t, l, m, u]) → w.grownBy w' v.ownBlock → K (a.put o.dst (.slice A' (n + 1) c')) w') : if Region.wanted o (yielded ops a.tmps) = true then Oper.wp Tryz.prog o a w K Q else F := by
  obtain ⟨v', w', hr, h2, h3, -⟩ := run_any el_node o.type base n v xs hx (some ⟨B, 0, none⟩) 1 c [t, l, m, u] rfl (rv_of_blk hy (fun j z hj => by simpa using hj)) h1 (by omega) hbase
  have hw : Region.wanted o (yielded ops a.tmps) = true := by simp [Region.wanted, hgd]
  rw [if_pos hw]
  obtain ⟨A', c', rfl⟩ := own_slice h2
  exact Lib.wp_append_run w s x 27 27 ho _ _ hs hB _ w' hr (h _ _ w' h2 h3)

end Go.Proofs.YtanhhkdoejnpiaaGreat.G
/-! Of stage 15 -/
namespace Go.Proofs.YtanhhkdoejnpiaaGreat.G
open Go.Joins Go.ChangeShapes Go.WideShapes Go.ChangeAt Go.RowKit Go.Deep Go.Shelf Go.Maps
set_option linter.unusedVariables false
set_option linter.unusedSimpArgs false

theorem flatten_set {L : List (List Int)} {j i : Nat} {xs : List Int} (h : L[j]? = some xs) (hi : i < xs.length) (v : Int) : (L.set j (xs.set i v)).flatten = L.flatten.set (off L j + i) v ∧ ∀ k, off (L.set j (xs.set i v)) k = off L k := by
  induction L generalizing j with
  | nil => simp at h
  | cons y r ih =>
    cases j with
    | zero =>
      simp only [List.getElem?_cons_zero, Option.some.injEq] at h
      subst h
      refine ⟨?_, fun k => ?_⟩
      · simp only [List.set_cons_zero, List.flatten_cons, off, List.take_zero, List.flatten_nil, List.length_nil, Nat.zero_add]
        rw [List.set_append_left _ _ hi]
      · cases k with
        | zero => rfl
        | succ k => simp [off]
    | succ j =>
      simp only [List.getElem?_cons_succ] at h
      obtain ⟨e1, e2⟩ := ih h
      have eo : off (y :: r) (j + 1) = y.length + off r j := by simp [off]
      refine ⟨?_, fun k => ?_⟩
      · simp only [List.set_cons_succ, List.flatten_cons]
        rw [e1, eo, Nat.add_assoc, List.set_append_right _ _ (by omega)]
        congr 2
        omega
      · cases k with
        | zero => rfl
        | succ k =>
          have := e2 k
          simp only [off] at this ⊢
          simp only [List.set_cons_succ, List.take_succ_cons, List.flatten_cons, List.length_append]
          rw [this]
theorem Ct.set_ {k : IntKind} {e : TypeId} {base : Nat} {w : World} {us : List Value} {L : List (List Int)} {B j i : Nat} {xs : List Int} (h : Ct k e base w us L B) (hj : L[j]? = some xs) (hi : i < xs.length) (v : Int) :
    Ct k e base (w.setCell ⟨B, off L j + i, none⟩ (.int k v)) us (L.set j (xs.set i v)) B := by
  obtain ⟨e1, e2⟩ := flatten_set hj hi v
  have hjl : j < L.length := by
    rcases Nat.lt_or_ge j L.length with q | q
    · exact q
    · rw [List.getElem?_eq_none q] at hj; cases hj
  refine ⟨by rw [List.length_set]; exact h.len, fun a u ys h1 h2 => ?_, fun q => ?_, fun ys hy => ?_⟩
  · rw [e2]
    by_cases ha : a = j
    · subst ha
      rw [List.getElem?_set_self hjl] at h2
      cases h2
      rw [List.length_set]
      obtain ⟨A, q1, q2, q3⟩ := h.row a u xs h1 hj
      exact ⟨A, q1, q2, fun _ => q3 (fun q => by rw [q] at hi; simp at hi)⟩
    · rw [List.getElem?_set_ne (fun q => ha q.symm)] at h2
      exact h.row a u ys h1 h2
  · have hf : L.flatten ≠ [] := fun q2 => q (by rw [e1, q2]; rfl)
    obtain ⟨h1, cs, h2, h3⟩ := h.blk hf
    refine ⟨h1, _, h2.set_ (off L j + i) (.int k v), fun a x hx => ?_⟩
    rw [e1] at hx
    have hlt : off L j + i < cs.size := by
      have := h3 (off L j + i) _ (flat_at hj (List.getElem?_eq_getElem hi))
      rcases Nat.lt_or_ge (off L j + i) cs.size with q | q
      · exact q
      · rw [Array.getElem?_eq_none q] at this; cases this
    by_cases ha : a = off L j + i
    · subst ha
      have hl2 : off L j + i < L.flatten.length := by
        rcases Nat.lt_or_ge (off L j + i) L.flatten.length with q | q
        · exact q
        · rw [List.getElem?_eq_none (by simpa using q)] at hx; cases hx
      rw [List.getElem?_set_self hl2] at hx
      cases hx
      rw [Array.getElem?_setIfInBounds_self_of_lt hlt]
    · rw [List.getElem?_set_ne (fun q => ha q.symm)] at hx
      rw [Array.getElem?_setIfInBounds_ne (fun q => ha q.symm)]
      exact h3 a x hx
  · rcases List.mem_or_eq_of_mem_set hy with q | q
    · exact h.short ys q
    · rw [q, List.length_set]; exact h.short xs (List.mem_of_getElem? hj)
/-- A node's field is another word. -/
def setF (g : Gr) (n : Int) (i : Nat) (v : Int) : Gr := (g.1.set (n.toNat - 1) ((ndOf g n).1, (ndOf g n).2.set i v), g.2)

end Go.Proofs.YtanhhkdoejnpiaaGreat.G
/-! Of stage 15 -/
namespace Go.Proofs.YtanhhkdoejnpiaaGreat.G
open Go.Joins Go.ChangeShapes Go.WideShapes Go.ChangeAt Go.RowKit Go.Deep Go.Shelf Go.Maps
set_option linter.unusedVariables false
set_option linter.unusedSimpArgs false

/-- A graph is right. -/
structure Rg (g : Gr) : Prop where
  hd : ∀ n ∈ g.1, okH n.1.1 n.1.2.1 n.1.2.2 = true ∧ (n.2.length : Int) = n.1.2.1
  mp : MapOk g
  fu : ∀ n ∈ g.1, ∀ x ∈ n.2, U64 x
  pt : ∀ n ∈ g.1, ∀ i : Nat, i < n.2.length → isP n i = true → n.2.getD i 0 ≤ g.1.length
  hn : ∀ row ∈ g.2, ∀ h ∈ row, 0 ≤ h ∧ h ≤ g.1.length
theorem ndOf_mem {g : Gr} {n : Int} (h : inN g n) : ndOf g n ∈ g.1 := by
  obtain ⟨h0, h1⟩ := h
  unfold ndOf
  have : n.toNat - 1 < g.1.length := by omega
  simp [List.getD, List.getElem?_eq_getElem this]
theorem getD_mem {α : Type} {L : List α} {x : Nat} (d : α) (h : x < L.length) : L.getD x d ∈ L := by simp [List.getD, List.getElem?_eq_getElem h]
theorem okH_len {t l m : Int} (h : okH t l m = true) : 0 ≤ l ∧ l ≤ 16 := by
  unfold okH at h
  rw [Bool.and_eq_true, decide_eq_true_eq, decide_eq_true_eq] at h
  exact rte_len h.1 h.2
theorem Rg.len {g : Gr} (h : Rg g) {n : Int} (hn : inN g n) : (ndOf g n).2.length ≤ 16 := by
  obtain ⟨h1, h2⟩ := h.hd _ (ndOf_mem hn)
  have := okH_len h1
  omega
theorem Rg.row {g : Gr} (h : Rg g) {th : Int} (ht : isTh g th) : ∀ x ∈ rowOf g th, 0 ≤ x ∧ x ≤ g.1.length := h.hn _ (by
  obtain ⟨h0, h1⟩ := ht
  exact getD_mem [] (by omega))
/-- The object of H. -/
abbrev hob (g : Gr) (th : Int) (o : Op) : Nd := ndOf g (gtv (rowOf g th) o.h)
/-- An answer. -/
abbrev An := Int × Int × Bool
instance (g : Gr) (th : Int) : Decidable (isTh g th) := by unfold isTh; infer_instance
abbrev K2 (g : Gr) (th : Int) (o : Op) : Kn := ⟨gtv (rowOf g th) o.h, gtv (rowOf g th) o.k, 0, 0, false⟩

end Go.Proofs.YtanhhkdoejnpiaaGreat.G
/-! Of stage 15 -/
namespace Go.Proofs.YtanhhkdoejnpiaaGreat.G
open Go.Joins Go.ChangeShapes Go.WideShapes Go.ChangeAt Go.RowKit Go.Deep Go.Shelf Go.Maps
set_option linter.unusedVariables false
set_option linter.unusedSimpArgs false

theorem rowOf_mem {g : Gr} {th x : Int} (h : x ∈ rowOf g th) : ∃ row ∈ g.2, x ∈ row := by
  unfold rowOf at h
  by_cases q : th.toNat < g.2.length
  · exact ⟨_, getD_mem [] q, h⟩
  · simp [List.getD, List.getElem?_eq_none (Nat.le_of_not_lt q)] at h

end Go.Proofs.YtanhhkdoejnpiaaGreat.G
/-! Of stage 15 -/
namespace Go.Proofs.YtanhhkdoejnpiaaGreat.G
open Go.Joins Go.ChangeShapes Go.WideShapes Go.ChangeAt Go.RowKit Go.Deep Go.Shelf Go.Maps
set_option linter.unusedVariables false
set_option linter.unusedSimpArgs false

theorem GrV.form {w : World} {v : Value} {g : Gr} (h : GrV w v g) : ∃ A c B d, v = .agg #[.slice A g.1.length c, .slice B g.2.length d] ∧ g.1.length ≤ 9223372036854775807 ∧ g.2.length ≤ 9223372036854775807 := by
  obtain ⟨a, b, rfl, h1, h2⟩ := h
  obtain ⟨A, c, rfl, m1⟩ := h1.slice
  obtain ⟨B, d, rfl, m2⟩ := h2.slice
  unfold maxLen at m1 m2
  exact ⟨A, c, B, d, rfl, m1, m2⟩

end Go.Proofs.YtanhhkdoejnpiaaGreat.G
/-! Of stage 15 -/
namespace Go.Proofs.YtanhhkdoejnpiaaGreat.G
open Go.Joins Go.ChangeShapes Go.WideShapes Go.ChangeAt Go.RowKit Go.Deep Go.Shelf Go.Maps
set_option linter.unusedVariables false
set_option linter.unusedSimpArgs false

theorem ndOf_set {g : Gr} {n v : Int} {i : Nat} (h : inN g n) : ndOf (setF g n i v) n = ((ndOf g n).1, (ndOf g n).2.set i v) := by
  obtain ⟨h0, h1⟩ := h
  have : n.toNat - 1 < g.1.length := by omega
  show ((g.1.set (n.toNat - 1) ((ndOf g n).1, (ndOf g n).2.set i v)).getD (n.toNat - 1) _) = _
  simp only [List.getD, List.getElem?_set_self this, Option.getD_some]
theorem inN_set {g : Gr} {n m v : Int} {i : Nat} : inN (setF g n i v) m ↔ inN g m := by simp [inN, setF]
/-! ### A new object -/
theorem fresh_nd {g : Gr} {th : Int} {o : Op} : ndOf (pushG (allocN g o) th (g.1.length + 1)) (g.1.length + 1) = ((o.t, o.l, o.m), List.replicate o.l.toNat 0) := by
  have : ((g.1.length : Int) + 1).toNat - 1 = g.1.length := by omega
  show ((g.1 ++ [((o.t, o.l, o.m), List.replicate o.l.toNat 0)]).getD (((g.1.length : Int) + 1).toNat - 1) _) = _
  rw [this]
  simp [List.getD]
theorem rep_0 (n j : Nat) : (List.replicate n (0 : Int)).getD j 0 = 0 := by
  simp [List.getD, List.getElem?_replicate]
  split <;> rfl

end Go.Proofs.YtanhhkdoejnpiaaGreat.G
