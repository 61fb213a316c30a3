/- The first of some addresses that is over there (twin.over, variadic): contract. -/
import Derived.Test.YtgcpkgogjcgfbaaTw1
import Derived.Test.YtgcpkgogjcgfbaaTw0
namespace Go.Proofs.Ytgcpkgogjcgfbaa
open Go.ChangeShapes Go.WideShapes Go.ChangeAt Go.RowKit
set_option linter.unusedVariables false
set_option linter.unusedSimpArgs false

def OvRel (w : World) (B : Nat) (ks : Array Value) (s : Int) (xs : List Int) (i : Value) (wr : World) : Prop := ∃ x : Nat, x ≤ xs.length ∧ i = .int .i64 x ∧ ovr s (xs.drop x) = ovr s xs ∧ Up w wr ∧ Blk wr B 31 ks
theorem ovr_step {s : Int} {xs : List Int} {x : Nat} (hx : x < xs.length) : ovr s (xs.drop x) = if ovb s (xs.getD x 0) then xs.getD x 0 else ovr s (xs.drop (x + 1)) := by
  rw [List.drop_eq_getElem_cons hx, show xs.getD x 0 = xs[x] from by simp [List.getD, List.getElem?_eq_getElem hx]]
  rfl
set_option maxRecDepth 100000 in
set_option maxHeartbeats 4000000 in
theorem over_any (n s a l x y : Int) (MA MB : Value) (xs : List Int) (p : Addr) (cap : Nat) (w : World) (hp : Row w p xs) (hu : ∀ A ∈ xs, U64 A) (hl : xs.length ≤ 1000) :
    Calls Try.prog 65 #[rov n MA MB s a l x y, .slice (some p) xs.length cap] w fun e w' => e = .returned (.int .u64 (ovr s xs)) ∧ Up w w' := by
  have HX := Lib.hid hp
  have HU := Lib.hid hu
  generalize hB : ovr s xs = o
  have HB := Lib.hid hB
  clear hp hu hB
  go_enter Try.func65, Try.ntmps65
  go_wp2
  have hb0 := Blk.new w 31 (roc n MA MB s a l x y)
  have U0 : Up w (w.alloc (.cells (roc n MA MB s a l x y) 31)) := (Up.refl w).alloc _
  generalize (w.alloc (.cells (roc n MA MB s a l x y) 31)) = W0 at hb0 U0 ⊢
  go_loopw [12] (fun i wr => OvRel w w.heap.size (roc n MA MB s a l x y) s xs i wr) (fun i _ => xs.length - (intOf i).toNat)
  case atStart => exact ⟨0, Nat.zero_le _, rfl, rfl, U0, hb0⟩
  case round =>
    obtain ⟨j, hj, rfl, ht, U, hb⟩ := hrel
    have HT := Lib.hid ht
    clear ht
    by_cases hlt : j < xs.length
    · have hc := (HX.out.up U).at_ j hlt
      have hA : U64 (xs.getD j 0) := HU.out _ (by rw [show xs.getD j 0 = xs[j] from by simp [List.getD, List.getElem?_eq_getElem hlt]]; exact List.getElem_mem hlt)
      have hS := Lib.hid (ovr_step (s := s) hlt)
      generalize xs.getD j 0 = A at hc hA hS
      have hw := Lib.hid (fun w => where_any A hA.1 hA.2 w)
      unfold ovb at hS
      generalize whs A = s1 at hw hS
      generalize whp A = p1 at hw
      generalize whb A = b1 at hw hS
      clear hA
      go_wp2_with (fail)
      refine (hw.out _).mono ?_
      rintro e w1 ⟨rfl, h1⟩
      have U1 := U.trans h1
      have hb1 := hb.up h1
      have hb1c := hb1.cell
      clear hw hc h1 hb U
      cases b1
      · have hS2 : Hid (ovr s (xs.drop (j + 1)) = o) := Lib.hid (by rw [← HB.out, ← HT.out, hS.out]; rfl)
        clear hS
        go_wp2
        refine ⟨⟨j + 1, by omega, by go_num, by rw [HB.out]; exact hS2.out, U1, hb1⟩, by simp [intOf]; omega⟩
      · by_cases he : s1 = s
        · have hS2 : Hid (A = o) := Lib.hid (by rw [← HB.out, ← HT.out, hS.out, decide_eq_true he]; rfl)
          have hq : (s1 == s) = true := beq_iff_eq.2 he
          clear hS he
          go_wp2
          go_ret
          exact ⟨show Ending.returned (.int .u64 A) = .returned (.int .u64 o) from by rw [hS2.out], U1⟩
        · have hS2 : Hid (ovr s (xs.drop (j + 1)) = o) := Lib.hid (by rw [← HB.out, ← HT.out, hS.out, decide_eq_false he]; rfl)
          have hq : (s1 == s) = false := beq_eq_false_iff_ne.2 he
          clear hS he
          go_wp2
          refine ⟨⟨j + 1, by omega, by go_num, by rw [HB.out]; exact hS2.out, U1, hb1⟩, by simp [intOf]; omega⟩
    · obtain rfl : j = xs.length := by omega
      have hS2 : Hid (o = 0) := Lib.hid (by rw [← HB.out, ← HT.out, List.drop_length]; rfl)
      go_wp2
      go_ret
      exact ⟨show Ending.returned (.int .u64 0) = .returned (.int .u64 o) from by rw [hS2.out], U⟩
end Go.Proofs.Ytgcpkgogjcgfbaa
