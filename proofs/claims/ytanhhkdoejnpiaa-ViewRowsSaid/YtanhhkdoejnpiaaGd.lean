/- graph.Canon's closure: contracts. -/
import Derived.Test.YtanhhkdoejnpiaaGc
/-! Of stage 15 -/
namespace Go.Proofs.Ytanhhkdoejnpiaa.G
open Go.Joins Go.ChangeShapes Go.WideShapes Go.ChangeAt Go.RowKit Go.Deep Go.Shelf Go.Maps
set_option linter.unusedVariables false
set_option linter.unusedSimpArgs false

/-- All is as it was but for two blocks and a row's own. -/
structure Kc (PL OB : Nat) (b : Option Nat) (w w' : World) : Prop where
  os : w'.os = w.os
  tape : w'.tape = w.tape
  output : w'.output = w.output
  size : w.heap.size ≤ w'.heap.size
  block : ∀ k, k < w.heap.size → k ≠ PL → k ≠ OB → some k ≠ b → w'.heap[k]? = w.heap[k]?
/-- A row is where it was, or in new memory. -/
def Nx (w : World) (b b' : Option Nat) : Prop := b' = b ∨ ∀ x, b' = some x → w.heap.size ≤ x
section
variable {PL OB : Nat} {b b' b'' : Option Nat} {w w' w'' : World}
theorem Nx.refl (w : World) (b : Option Nat) : Nx w b b := .inl rfl
theorem Nx.trans (h : Nx w b b') (hs : w.heap.size ≤ w'.heap.size) (k : Nx w' b' b'') : Nx w b b'' := by
  rcases k with rfl | k
  · exact h
  · exact .inr fun x e => Nat.le_trans hs (k x e)
theorem Nx.old (h : Nx w b b') (hs : w'.heap.size ≤ w.heap.size) : Nx w' b b' := by
  rcases h with rfl | k
  · exact .inl rfl
  · exact .inr fun x e => Nat.le_trans hs (k x e)
theorem Nx.ne (h : Nx w b b') {k : Nat} (hk : k < w.heap.size) (hb : some k ≠ b) : some k ≠ b' := by
  rcases h with rfl | q
  · exact hb
  · intro e
    have := q k e.symm
    omega
theorem Kc.of_up (h : Up w w') : Kc PL OB b w w' := ⟨h.os, h.tape, h.output, h.size, fun k hk _ _ _ => h.block k hk⟩
theorem Kc.refl (w : World) : Kc PL OB b w w := .of_up (Up.refl w)
theorem Kc.trans (h : Kc PL OB b w w') (n : Nx w b b') (k : Kc PL OB b' w' w'') : Kc PL OB b w w'' :=
  ⟨k.os.trans h.os, k.tape.trans h.tape, k.output.trans h.output, Nat.le_trans h.size k.size, fun i h1 h2 h3 h4 =>
    (k.block i (Nat.lt_of_lt_of_le h1 h.size) h2 h3 (n.ne h1 h4)).trans (h.block i h1 h2 h3 h4)⟩
theorem Kc.up (h : Kc PL OB b w w') (k : Up w' w'') : Kc PL OB b w w'' := h.trans (Nx.refl w b) (.of_up k)
end
section
variable {g : Gr} {w0 w w' : World} {GB PB PL OB RB c : Nat} {A : Option Addr} {vs0 vs vn : Value} {us : List Value} {o : List Int}
theorem Told.snoc {n : Int} (ho : Told g o) (hi : inN g n) (hn : n ∉ o) : Told g (o ++ [n]) := ⟨by
  rw [List.nodup_append]
  exact ⟨ho.nd, by simp, fun a ha b hb e => hn (by rw [List.mem_singleton] at hb; subst hb; subst e; exact ha)⟩, fun m hm => by
  rcases List.mem_append.1 hm with x | x
  · exact ho.inn m x
  · rw [List.mem_singleton.1 x]; exact hi⟩
end
/-- What is so at the beginning. -/
structure Hc (g : Gr) (w0 : World) (PL OB f y : Nat) (us : List Value) (o : List Int) (w : World) (NB M : Nat) (nd : Nd) : Prop where
  pl : PL < w.heap.size
  ob : OB < w.heap.size
  up : w0.heap.size ≤ w.heap.size
  nb : w.heap.size ≤ NB
  mw : w.heap.size ≤ M
  td : Told g o
  hus : us.length = o.length
  inn : inN g ((y : Int) + 1)
  no : (y : Int) + 1 ∉ o
  fu : g.1.length < f + 1 + o.length
  nd : nd = ndOf g ((y : Int) + 1)
section
variable {g : Gr} {w0 w wr w2 : World} {GB PB PL OB RB c f y NB M : Nat} {A : Option Addr} {vs0 vs vn vn' Fv : Value} {us us' : List Value} {o o' : List Int} {nd : Nd} {x : Nat}
theorem Hc.told (H : Hc g w0 PL OB f y us o w NB M nd) : Told g (o ++ [(y : Int) + 1]) := H.td.snoc H.inn H.no
theorem Hc.more (H : Hc g w0 PL OB f y us o w NB M nd) (hs : List Int) : More g hs (o ++ [(y : Int) + 1]) (vall g f hs (o ++ [(y : Int) + 1])) :=
  vall_more (vis_more g f) hs _ H.told (by have := H.fu; simp; omega)
end

end Go.Proofs.Ytanhhkdoejnpiaa.G
/-! Of stage 15 -/
namespace Go.Proofs.Ytanhhkdoejnpiaa.G
open Go.Joins Go.ChangeShapes Go.WideShapes Go.ChangeAt Go.RowKit Go.Deep Go.Shelf Go.Maps
set_option linter.unusedVariables false
set_option linter.unusedSimpArgs false

theorem make_wordsN (n : Nat) (hn : n ≤ 1048576) (w : World) :
    (Instr.makeSlice 22 (.int .i64 (n : Int)) (.int .i64 (n : Int))).run Try.prog w = .ok (.slice (some ⟨w.heap.size, 0, none⟩) n n) (w.alloc (.cells (List.replicate n (Value.int .u64 0)).toArray 48)) := by
  have := run_make_row' (P := Try.prog) 22 48 (.int .u64 0) 8 Try.underlying22 (by kernel_rfl) rfl .i64 .i64 n (by omega) (by omega) w
  rw [show madeCells #[Value.int .u64 0] n = (List.replicate n (Value.int .u64 0)).toArray from by
    apply Array.ext
    · simp [size_madeCells]
    · intro i h1 h2
      simp [madeCells, Nat.mod_one]] at this
  exact this

end Go.Proofs.Ytanhhkdoejnpiaa.G
