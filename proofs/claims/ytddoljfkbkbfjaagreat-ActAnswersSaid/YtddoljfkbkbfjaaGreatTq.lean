/- One more behind a row of the call's own; a thread is answered (act's step: answer): contracts. -/
import Derived.Test.YtddoljfkbkbfjaaGreatTi
import Derived.Deep.CutRange
import Derived.BigRegion
namespace Go.Proofs.YtddoljfkbkbfjaaGreat.T
open G
open Go.Joins Go.ChangeShapes Go.WideShapes Go.ChangeAt Go.RowKit Go.Deep Go.Shelf Go.Maps
set_option linter.unusedVariables false
set_option linter.unusedSimpArgs false

set_option maxRecDepth 100000 in
theorem cs_push {α : Type} {cv : α → List Value} {z : α} {T e : TypeId} {size bytes base : Nat} {S : List Nat} (E : Ez T e size bytes (cv z)) (hk : ∀ x, (cv x).length = size) {w : World} {v : Value} {xs : List α} (h : Cs base S e cv z w v xs) (hbase : base ≤ w.heap.size) (B : Addr) (c : Nat) (x : α) (hB : B.block < w.heap.size) (hx : ∀ i u, (cv x)[i]? = some u → w.cell? (B.add i) = some u) (h1 : ∀ u ∈ cv x, u.oneCell' = true) (hb : (xs.length + 1) * bytes ≤ 140737488355328) (hm : xs.length + 1 ≤ maxLen) (ty : TypeId) :
    ∃ A cap w', (Builtin.append_ #[T, T] ty #[v, .slice (some B) 1 c]).run Tryz.prog w = .ok (.slice A (xs.length + 1) cap) w' ∧ w'.ownsRow base e size (.slice A (xs.length + 1) cap) (xs.length + 1) ((xs ++ [x]).flatMap cv) ∧ Kp S w w' ∧ (∀ g t cs, t ≠ e → Blk w g t cs → Blk w' g t cs) := by
  have hf : (xs ++ [x]).flatMap cv = xs.flatMap cv ++ cv x := by simp
  rcases h with ⟨rfl, A, rfl⟩ | ⟨h0, g, cap, rfl, g1, g2, g3, g4, g5⟩
  · have hl := fm_len hk [x]
    obtain ⟨cap, w', r1, r2, r3, r4, r5⟩ := run_cl E hk A B 1 c [x] w rfl (by decide) (fun _ => ⟨B, rfl, hB, fun j u hj => hx j u (by simpa using hj)⟩) (by simpa using hb) (by simpa using hm) ty
    refine ⟨_, cap, w', r1, ⟨hl, .inr ⟨w.heap.size, cap, _, rfl, hbase, r4, r2, r3, ?_, ?_⟩⟩, .of_up r5, fun g t cs _ hb => hb.up r5⟩
    · rw [List.size_toArray, fm_len hk]
      simp
      congr 1
      omega
    · show List.take (1 * size) (List.flatMap cv ([x] ++ List.replicate (cap - 1) z)) = _
      rw [List.flatMap_append, List.take_append_of_le_length (by rw [hl]; exact Nat.le_refl _), List.take_of_length_le (by rw [hl]; exact Nat.le_refl _)]
      rfl
  · have hl := fm_len hk xs
    have hown : w.ownsRow base e size (.slice (some ⟨g, 0, none⟩) xs.length cap) xs.length (xs.flatMap cv) := by
      refine ⟨hl, .inr ⟨g, cap, _, rfl, g1, g5, g3, g4, ?_, ?_⟩⟩
      · rw [List.size_toArray, fm_len hk]
        simp
        congr 1
        omega
      · show List.take (xs.length * size) (List.flatMap cv (xs ++ List.replicate (cap - xs.length) z)) = _
        rw [List.flatMap_append, List.take_append_of_le_length (by rw [hl]; exact Nat.le_refl _), List.take_of_length_le (by rw [hl]; exact Nat.le_refl _)]
    obtain ⟨⟨i0, zv, hi, hz0, hz1, hz2, hz3⟩, hu, hlen, hpos⟩ := E
    obtain ⟨v', w', r1, r2, r3, r4⟩ := run_append_own (P := Tryz.prog) w base T ty e i0 zv size bytes hu hi hz0 hz1 hz2 (by rw [hz3]; simpa using hlen) hpos _ _ _ hown B 1 c (cv x) (by rw [hk]; omega) hx h1 hm hb hbase
    obtain ⟨A', c', rfl⟩ := own_slice r2
    rw [← hf] at r2
    refine ⟨A', c', w', r1, r2, ⟨r3.os, r3.tape, r3.output, r3.size, fun k hk' hkS => r3.block k hk' (fun q => hkS (by simp [Value.ownBlock] at q; rw [q]; exact g2))⟩, fun g' t cs hne hb => hb.grown r3 (fun q => ?_)⟩
    simp [Value.ownBlock] at q
    subst q
    exact (hb.ne_type g5 hne) rfl
end Go.Proofs.YtddoljfkbkbfjaaGreat.T
