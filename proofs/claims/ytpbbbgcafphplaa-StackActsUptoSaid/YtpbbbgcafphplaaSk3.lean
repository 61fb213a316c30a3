/- An address's first place in a row (package stack: finder, a map and a closure): contracts. -/
import Derived.Test.YtpbbbgcafphplaaSk2
namespace Go.Proofs.Ytpbbbgcafphplaa
open Go.Joins Go.ChangeShapes Go.WideShapes Go.ChangeAt Go.RowKit Go.Deep Go.Shelf Go.Maps
set_option linter.unusedVariables false
set_option linter.unusedSimpArgs false

abbrev bx (b : Nat) : Value := .pointer (some ⟨b, 0, none⟩)
/-- A datum tells the first places of a row. -/
structure Fnd (ys : List Int) (D : DataW Unit) : Prop where
  m : IsMap D
  h : ∀ a, Maps.has D (.int .u64 a) = decide (a ∈ ys)
  v : ∀ a z, a ∈ ys → D.atKey (.int .u64 a) z = .lit (.int .i64 (ys.idxOf a : Nat))
theorem Fnd.nil : Fnd [] (.map []) := ⟨⟨_, rfl⟩, fun a => by simp [Maps.has], fun a z h => by cases h⟩
theorem Fnd.old {ys : List Int} {D : DataW Unit} {a : Int} (h : Fnd ys D) (k : a ∈ ys) : Fnd (ys ++ [a]) D := by
  refine ⟨h.m, fun b => ?_, fun b z hb => ?_⟩
  · rw [h.h b]
    by_cases q : b = a
    · subst q; simp [k]
    · simp [q]
  · have hb : b ∈ ys := by
      rcases List.mem_append.1 hb with q | q
      · exact q
      · rw [List.mem_singleton.1 q]; exact k
    rw [h.v b z hb, List.idxOf_append, if_pos hb]
theorem Fnd.new {ys : List Int} {D : DataW Unit} {a : Int} (h : Fnd ys D) (k : a ∉ ys) : Fnd (ys ++ [a]) (D.put (.int .u64 a) (.lit (.int .i64 (ys.length : Nat)))) := by
  obtain ⟨es, rfl⟩ := h.m
  refine ⟨⟨_, rfl⟩, fun b => ?_, fun b z hb => ?_⟩
  · by_cases q : b = a
    · subst q
      rw [Maps.has_put_same h.m (show WideAt.IsKeyLit (.int .u64 b) from trivial)]
      simp
    · rw [Maps.has_put_other (fun e => q (by injection e)), h.h b]
      simp [q]
  · by_cases q : b = a
    · subst q
      rw [Maps.atKey_put_same h.m (show WideAt.IsKeyLit (.int .u64 b) from trivial), List.idxOf_append, if_neg k]
      simp
    · rw [Maps.atKey_put_other (fun e => q (by injection e))]
      have hb : b ∈ ys := by
        rcases List.mem_append.1 hb with r | r
        · exact r
        · exact absurd (List.mem_singleton.1 r) q
      rw [h.v b z hb, List.idxOf_append, if_pos hb]
theorem zeroI (w : World) : (zeroValue 3).run Try.prog w = .ok (.int .i64 0) w := by kernel_rfl
/-- The closure's box, and what it holds. -/
def FnOk (w : World) (B M : Nat) (xs : List Int) : Prop := Blk w B 60 #[.map (some M)] ∧ ∃ n D, w.ownsMap Try.prog 23 (plainElem (H := Unit) Try.prog 3) M n D ∧ Fnd xs D
theorem FnOk.up {w w' : World} {B M : Nat} {xs : List Int} (h : FnOk w B M xs) (k : Up w w') : FnOk w' B M xs := by
  obtain ⟨h1, n, D, h2, h3⟩ := h
  exact ⟨h1.up k, n, D, h2.kept k.gb (by simp), h3⟩
def FnPost (xs : List Int) (w : World) (e : Ending) (w' : World) : Prop := ∃ B M, e = .returned (.func (.func 31) #[] #[bx B]) ∧ FnOk w' B M xs ∧ Up w w'
def fdv (xs : List Int) (a : Int) : Int := if a ∈ xs then (xs.idxOf a : Nat) else 0

set_option maxHeartbeats 1000000 in
theorem find_any (a : Int) (B M : Nat) (xs : List Int) (w : World) (ha : U64 a) (h : FnOk w B M xs) :
    Calls Try.prog 31 #[.int .u64 a, bx B] w fun e w' => e = .returned (.tuple #[.int .i64 (fdv xs a), .bool (decide (a ∈ xs))]) ∧ Up w w' := by
  obtain ⟨hb, n, D, hp, hF⟩ := h
  have hc := hb.cell
  have hkey := key_of ha
  have hh := hF.h a
  have HF := Lib.hid hF
  clear hF hb ha
  go_enter Try.func31, Try.ntmps31
  go_wp2_with (at_lookup; refine wpList_lookup_own_ok_int _ rfl _ _ 60 rfl 23 3 .i64 law64 Try.underlying60 Try.underlying3 (zeroI _) M n D rfl hp _ _ rfl hkey ?_; rw [hh]; intro c hat hwc)
  go_ret2
  refine ⟨?_, Up.refl _⟩
  have e : c = fdv xs a := by
    unfold fdv
    by_cases q : a ∈ xs
    · rw [if_pos q]
      rw [HF.out.v a _ q] at hat
      injection hat with hat
      injection hat with _ hat
      exact hat.symm
    · rw [if_neg q]
      rw [Maps.atKey_of_not_has (by rw [hh]; exact decide_eq_false q)] at hat
      injection hat with hat
      injection hat with _ hat
      exact hat.symm
  rw [e]
  rfl
def FiRel (w : World) (B M : Nat) (xs : List Int) (n : Nat) (i : Value) (wr : World) : Prop :=
  ∃ (x k : Nat) (D : DataW Unit), x ≤ n ∧ i = .int .i64 x ∧ k ≤ x ∧ wr.ownsMap Try.prog 23 (plainElem Try.prog 3) M k D ∧ Fnd (xs.take x) D ∧ Blk wr B 60 #[.map (some M)] ∧ Up w wr
set_option maxHeartbeats 2000000 in
theorem finder_any (v : Value) (xs : List Int) (w : World) (hx : Sl w v xs) (hu : ∀ x ∈ xs, U64 x) : Calls Try.prog 29 #[v] w (FnPost xs w) := by
  have hm := hx.max
  obtain ⟨A, c, rfl, -, -, -, hr⟩ := hx
  generalize hn : xs.length = n at *
  have hl := hr.1
  unfold maxLen at hm
  have HR := Lib.hid hr
  have HU := Lib.hid hu
  have HN := Lib.hid hn
  have hmm := @run_makeMap Try.prog
  have hmade := World.ownsMap_made w Try.prog 23 (plainElem (H := Unit) Try.prog 3)
  clear hr hu hn hl
  go_enter Try.func29, Try.ntmps29
  go_wp2_with (fail)
  go_loopw [11] (fun i wr => FiRel w (w.heap.size + 1) w.heap.size xs n i wr) (fun i _ => n - (intOf i).toNat)
  case atStart => exact ⟨0, 0, _, Nat.zero_le _, rfl, Nat.le_refl _, (hmade.alloc _), Fnd.nil, Blk.new' _ (by simp) _ _, ((Up.refl w).alloc _).alloc _⟩
  case round =>
    obtain ⟨x, k, D, hxk, rfl, hk, hp, hF, hb, hU⟩ := hrel
    by_cases hlt : x < n
    · obtain ⟨p, rfl, hcp⟩ := (HR.out.up hU).at_ hlt
      have hlx : x < xs.length := by rw [HN.out]; exact hlt
      have ha : U64 (xs.getD x 0) := HU.out _ (by simp [List.getD, List.getElem?_eq_getElem hlx])
      have T : Hid (xs.take (x + 1) = xs.take x ++ [xs.getD x 0]) := Lib.hid (take_snoc' hlx)
      have L : Hid ((xs.take x).length = x) := Lib.hid (by rw [List.length_take]; omega)
      generalize xs.getD x 0 = a at hcp ha T
      have hkey := key_of ha
      have hbc := hb.cell
      have hbl := hb.lt
      have hh := hF.h a
      have HF := Lib.hid hF
      have HB := Lib.hid hb
      have HUp := Lib.hid hU
      clear hF hb hU ha
      by_cases hin : a ∈ xs.take x
      · rw [decide_eq_true hin] at hh
        have HI : Hid (a ∈ xs.take x) := Lib.hid hin
        clear hin
        go_wp2_with (at_lookup; refine wpList_lookup_own_ok_int _ rfl _ _ 60 rfl 23 3 .i64 law64 Try.underlying60 Try.underlying3 (zeroI _) w.heap.size k D rfl hp _ _ rfl hkey ?_; rw [hh]; intro c hat hwc; clear hat)
        go_roundw
        case rel => exact ⟨x + 1, k, D, by omega, by go_num, by omega, hp, by rw [T.out]; exact HF.out.old HI.out, HB.out, HUp.out⟩
        case measure => simp [intOf]; omega
      · rw [decide_eq_false hin] at hh
        have HI : Hid (a ∉ xs.take x) := Lib.hid hin
        clear hin
        go_wp2_with (first
          | (at_lookup; refine wpList_lookup_own_ok_int _ rfl _ _ 60 rfl 23 3 .i64 law64 Try.underlying60 Try.underlying3 (zeroI _) w.heap.size k D rfl hp _ _ rfl hkey ?_; rw [hh]; intro c hat hwc; clear hat)
          | (at_mapUpdate; refine wpList_mapUpdate_own _ rfl _ _ _ 60 rfl 23 3 law64 Try.underlying60 _ w.heap.size k D rfl hp (by unfold maxLen; omega) _ _ _ rfl rfl hkey _ [] (plainElem_int Try.underlying3 (WalkArith.wf_i64 (by omega))) ?_; intro w3 hown3 hgrow3))
        have hN := HF.out.new HI.out
        rw [L.out, ← T.out] at hN
        go_roundw
        case rel => exact ⟨x + 1, k + 1, _, by omega, by go_num, by omega, hown3, hN, HB.out.grown hgrow3 (by simp), HUp.out.grown hgrow3 (fun k e => by cases e; exact Nat.le_refl _)⟩
        case measure => simp [intOf]; omega
    · obtain rfl : x = n := by omega
      rw [List.take_of_length_le (by rw [HN.out]; exact Nat.le_refl _)] at hF
      go_wp2
      go_ret
      exact ⟨_, _, rfl, ⟨hb, k, D, hp, hF⟩, hU⟩
end Go.Proofs.Ytpbbbgcafphplaa
