/- What is reached from some addresses (package walk's Reach): contracts. -/
import Derived.Test.YtmjadmoadedghaaWk7
import Derived.Laws.EntriesVeiled
namespace Go.Proofs.Ytmjadmoadedghaa
open Go.ChangeShapes Go.WideShapes Go.ChangeAt Go.RowKit Go.Shelf Go.Maps
set_option linter.unusedVariables false
set_option linter.unusedSimpArgs false

def Me.rch (m : Me) (roots : List Int) : List Int := roots.foldl (fun o a => m.vis (2 * m.n + 1) a o) []
theorem rch_snoc (m : Me) (l : List Int) (a : Int) : m.rch (l ++ [a]) = m.vis (2 * m.n + 1) a (m.rch l) := by
  unfold Me.rch
  rw [List.foldl_append]
  rfl
/-- A row of words comes. -/
def Rows1 (w : World) (xs : List Int) (e : Ending) (w' : World) : Prop := ∃ v, e = .returned v ∧ Lo w' w.heap.size v xs ∧ Up w w'
def ReRel (m : Me) (P Q : Addr) (c d : Nat) (xs : List Int) (k : Nat) (w : World) (i : Value) (wr : World) : Prop :=
  ∃ x : Nat, x ≤ k ∧ i = .int .i64 x ∧ St m P Q c d w.heap.size w.heap.size (w.heap.size + 1) (w.heap.size + 1 + 1) (w.heap.size + 1 + 1 + 1) (w.heap.size + 1 + 1 + 1 + 1) wr (m.rch (xs.take x)) ∧ Up w wr

set_option maxHeartbeats 4000000 in
theorem reach_any (m : Me) (P Q : Addr) (c d : Nat) (A : Option Addr) (k cap : Nat) (xs : List Int) (w : World) (hm : Sits w m P Q c d) (hwf : m.wf) (hx : Rd w A k xs) (hu : ∀ x ∈ xs, U64 x) (hk : k ≤ 1000000) :
    Calls Try.prog 16 #[.agg (mcs m.n P Q c d), .slice A k cap] w (Rows1 w (m.rch xs)) := by
  have HM := Lib.hid hm
  have HX := Lib.hid hx
  have HU := Lib.hid hu
  have Lx := Lib.hid hx.1
  have hP : P.block < w.heap.size := hm.2.2.2.2.2.1.1
  have hQ : Q.block < w.heap.size := hm.2.2.2.2.2.2.1
  have hn := hm.1.2.1
  have hmm := @run_makeMap Try.prog
  clear hm hx hu
  have HG := Lib.hid (show Geo w.heap.size w.heap.size (w.heap.size + 1) (w.heap.size + 1 + 1) (w.heap.size + 1 + 1 + 1) (w.heap.size + 1 + 1 + 1 + 1) P Q from ⟨Nat.le_refl _, by omega, by omega, by omega, by omega, hP, hQ⟩)
  go_enter Try.func16, Try.ntmps16
  go_wp2
  go_loopw [14] (fun i wr => ReRel m P Q c d xs k w i wr) (fun i _ => k - (intOf i).toNat)
  case atStart =>
    have U := (((((Up.refl w).alloc (.cells (mcs m.n P Q c d) 25)).alloc (.cells #[.slice none 0 0] 22)).alloc (.map #[] 0)).alloc (.cells #[.map (some (w.heap.size + 1 + 1))] 70)).alloc (.cells #[fov w.heap.size (w.heap.size + 1) (w.heap.size + 1 + 1 + 1) (w.heap.size + 1 + 1 + 1 + 1)] 71)
    refine ⟨0, Nat.zero_le _, rfl, ⟨?_, ⟨?_, HM.out.up U⟩, ⟨_, ?_, Lo.nil _ _⟩, ?_, ?_, ?_, List.nodup_nil, ?_⟩, U⟩
    · exact (Blk.new' _ (by simp) _ _).alloc _
    · exact ((((Blk.new' _ (by simp) _ _).alloc _).alloc _).alloc _).alloc _
    · exact (((Blk.new' _ (by simp) _ _).alloc _).alloc _).alloc _
    · exact Blk.new' _ (by simp) _ _
    · have h := ((World.ownsMap_made ((w.alloc (.cells (mcs m.n P Q c d) 25)).alloc (.cells #[.slice none 0 0] 22)) Try.prog 31 (unitElem (H := Unit))).alloc (.cells #[.map (some (w.heap.size + 1 + 1))] 70)).alloc (.cells #[fov w.heap.size (w.heap.size + 1) (w.heap.size + 1 + 1 + 1) (w.heap.size + 1 + 1 + 1 + 1)] 71)
      simp only [World.size_alloc] at h
      exact h
    · intro x hx; cases hx
    · have := lft_le m []
      show 0 + _ ≤ _
      have e : m.rch (List.take 0 xs) = [] := rfl
      rw [e]
      omega
  case round =>
    obtain ⟨x, hxk, rfl, hSt, U⟩ := hrel
    by_cases hlt : x < k
    · obtain ⟨p, rfl, hcp⟩ := (HX.out.up U).at_ hlt
      have hlx : x < xs.length := by rw [Lx.out]; exact hlt
      have ha : U64 (xs.getD x 0) := HU.out _ (by simp [List.getD, List.getElem?_eq_getElem hlx])
      have T : Hid (m.rch (xs.take (x + 1)) = m.vis (2 * m.n + 1) (xs.getD x 0) (m.rch (xs.take x))) := Lib.hid (by rw [take_snoc' hlx, rch_snoc])
      have hcall := Lib.hid (follow_any m P Q c d w.heap.size w.heap.size (w.heap.size + 1) (w.heap.size + 1 + 1) (w.heap.size + 1 + 1 + 1) (w.heap.size + 1 + 1 + 1 + 1) HG.out hwf (2 * m.n + 1) (xs.getD x 0) _ wr ha hSt (by have := lft_le m (m.rch (xs.take x)); omega))
      generalize xs.getD x 0 = a at hcp hcall T
      have hfc := hSt.hf.cell
      unfold fov at hfc
      clear ha hSt
      go_wp2_with (fail)
      refine hcall.out.mono ?_
      rintro e W2 ⟨⟨r, rfl⟩, hS2, hK2, hF2⟩
      have S2 := Lib.hid hS2
      have U2 := Lib.hid (show Up w W2 from Below.trans U hK2.b)
      clear hS2 hK2 hF2 U hcp hfc hcall
      go_wp2
      refine ⟨⟨x + 1, by omega, by go_num, by rw [T.out]; exact S2.out, U2.out⟩, by simp [intOf]; omega⟩
    · obtain rfl : x = k := by omega
      obtain ⟨v, hv, hl⟩ := hSt.hl
      have hvc := hv.cell
      have HL := Lib.hid hl
      clear hSt hl
      go_wp2
      go_ret
      exact ⟨v, rfl, by have h := HL.out; rw [List.take_of_length_le (by rw [Lx.out]; exact Nat.le_refl _)] at h; exact h, U⟩
end Go.Proofs.Ytmjadmoadedghaa
