/- The graphs that a statement asks of; New; the example: contracts. -/
import Derived.Test.YtlocllcijncllaaGp
import Derived.Test.YtlocllcijncllaaOp
namespace Go.Proofs.Ytlocllcijncllaa
open Go.Joins Go.ChangeShapes Go.WideShapes Go.ChangeAt Go.RowKit Go.Deep Go.Shelf Go.Maps
set_option linter.unusedVariables false
set_option linter.unusedSimpArgs false

theorem mem_ptl {n : Nd} {i : Nat} (h : i < n.1.2.1.toNat) (k : isP n i = true) : i ∈ ptl n := List.mem_filter.2 ⟨List.mem_range.2 h, k⟩
theorem rg_of {g : Gr} {B : Nat} (h : rgB g = true) (hi : GrIn g B) : Rg g := by
  unfold rgB at h
  rw [Bool.and_eq_true, List.all_eq_true, List.all_eq_true] at h
  obtain ⟨h1, h2⟩ := h
  have hn : ∀ n ∈ g.1, okHd n.1 = true ∧ (n.2.length : Int) = n.1.2.1 ∧ ∀ i ∈ ptl n, n.2.getD i 0 ≤ (g.1.length : Int) := fun n hm => by
    have := h1 n hm
    unfold ndB at this
    rw [Bool.and_eq_true, Bool.and_eq_true, decide_eq_true_eq, List.all_eq_true] at this
    exact ⟨this.1, this.2.1, fun i hi => of_decide_eq_true (this.2.2 i hi)⟩
  refine ⟨fun n hm => ⟨(hn n hm).1, (hn n hm).2.1⟩, fun n hm => (hi.nd n hm).1, fun n hm => (hi.nd n hm).2, fun n hm i hil hp => (hn n hm).2.2 i (mem_ptl (by have := (hn n hm).2.1; omega) hp), fun row hr hh hm => ?_⟩
  have := h2 row hr
  unfold rowB at this
  have := List.all_eq_true.1 this hh hm
  rw [Bool.and_eq_true, decide_eq_true_eq, decide_eq_true_eq] at this
  exact this
theorem rgB_of {g : Gr} (h : Rg g) : rgB g = true := by
  unfold rgB
  rw [Bool.and_eq_true, List.all_eq_true, List.all_eq_true]
  refine ⟨fun n hm => ?_, fun row hr => ?_⟩
  · unfold ndB
    obtain ⟨h1, h2⟩ := h.hd n hm
    rw [Bool.and_eq_true, Bool.and_eq_true, decide_eq_true_eq, List.all_eq_true]
    refine ⟨h1, h2, fun i hi => decide_eq_true ?_⟩
    have hl := ptk_lt hi
    exact h.pt n hm i (by omega) (List.mem_filter.1 hi).2
  · unfold rowB
    rw [List.all_eq_true]
    intro x hx
    obtain ⟨h1, h2⟩ := h.hn row hr x hx
    rw [decide_eq_true h1, decide_eq_true h2]
    rfl
def fewB (g : Gr) : Bool := rgB g && (decide (g.1.length ≤ 60) && decide (g.2.length ≤ 200))
/-- A graph that a statement goes on with. -/
structure Few (g : Gr) (B : Nat) : Prop where
  rg : Rg g
  n : g.1.length ≤ 60
  s : g.2.length ≤ 200
  b : g.2.flatten.length ≤ B
theorem few_of {g : Gr} {B : Nat} (h : fewB g = true) (hi : GrIn g B) : Few g B := by
  unfold fewB at h
  rw [Bool.and_eq_true, Bool.and_eq_true, decide_eq_true_eq, decide_eq_true_eq] at h
  exact ⟨rg_of h.1 hi, h.2.1, h.2.2, by have := hi.st; omega⟩
theorem flat_bound {L : List (List Int)} {k : Nat} (h : ∀ xs ∈ L, xs.length ≤ k) : L.flatten.length ≤ L.length * k := by
  induction L with
  | nil => simp
  | cons x r ih =>
    have h1 := h x (by simp)
    have h2 := ih (fun xs hx => h xs (by simp [hx]))
    simp only [List.flatten_cons, List.length_append, List.length_cons]
    rw [Nat.add_mul]
    omega
theorem Rg.fit {g : Gr} (h : Rg g) (hn : g.1.length ≤ 1000000) (hs : g.2.length ≤ 1000000) (hb : g.2.flatten.length ≤ 1099511627776) : FitG g := by
  refine ⟨by omega, ?_, by omega, hb⟩
  have := flat_bound (L := g.1.map (·.2)) (k := 16) (fun xs hx => by
    obtain ⟨n, hm, rfl⟩ := List.mem_map.1 hx
    obtain ⟨h1, h2⟩ := h.hd n hm
    have := okH_len h1
    omega)
  rw [List.length_map] at this
  omega
set_option maxHeartbeats 1000000 in
theorem few_any (v : Value) (g : Gr) (w : World) (hg : GrV w v g) (hM : ∀ n ∈ g.1, NdOk n) : Calls Try.prog 17 #[v] w fun e w' => e = .returned (.bool (fewB g)) ∧ Up w w' := by
  have hr := Lib.hid (fun w' (u : Up w w') => rright15_any v g w' (hg.up u) (fun n hm => (hM n hm).1))
  obtain ⟨ga, gb, rfl, hga, hgb⟩ := hg
  obtain ⟨A1, c1, rfl, m1⟩ := hga.slice
  obtain ⟨A2, c2, rfl, m2⟩ := hgb.slice
  unfold maxLen at m1 m2
  unfold fewB
  clear hga hgb hM
  generalize g.1.length = n at *
  generalize g.2.length = s at *
  have d1 : decide ((n : Int) ≤ 60) = decide (n ≤ 60) := by by_cases q : n ≤ 60 <;> simp [q] <;> omega
  have d2 : decide ((s : Int) ≤ 200) = decide (s ≤ 200) := by by_cases q : s ≤ 200 <;> simp [q] <;> omega
  generalize decide (n ≤ 60) = b1 at *
  generalize decide (s ≤ 200) = b2 at *
  generalize rgB g = b at *
  cases b
  · go_enter Try.func17, Try.ntmps17
    go_wp2_with (fail)
    refine (hr.out _ ((Up.refl w).alloc _)).mono ?_
    rintro e w1 ⟨rfl, h1⟩
    have HU := Lib.hid (((Up.refl w).alloc (.cells #[.slice A1 n c1, .slice A2 s c2] 25)).trans h1)
    clear h1
    go_wp2
    go_ret
    exact ⟨rfl, HU.out⟩
  · cases b1
    · go_enter Try.func17, Try.ntmps17
      go_wp2_with (fail)
      refine (hr.out _ ((Up.refl w).alloc _)).mono ?_
      rintro e w1 ⟨rfl, h1⟩
      have hb := (Blk.new w 25 #[.slice A1 n c1, .slice A2 s c2]).up h1
      have hc := hb.cell
      have hl := hb.lt
      have HU := Lib.hid (((Up.refl w).alloc (.cells #[.slice A1 n c1, .slice A2 s c2] 25)).trans h1)
      clear h1 hb
      go_wp2
      go_ret
      exact ⟨rfl, HU.out⟩
    · go_enter Try.func17, Try.ntmps17
      go_wp2_with (fail)
      refine (hr.out _ ((Up.refl w).alloc _)).mono ?_
      rintro e w1 ⟨rfl, h1⟩
      have hb := (Blk.new w 25 #[.slice A1 n c1, .slice A2 s c2]).up h1
      have hc := hb.cell
      have hl := hb.lt
      have HU := Lib.hid (((Up.refl w).alloc (.cells #[.slice A1 n c1, .slice A2 s c2] 25)).trans h1)
      clear h1 hb
      go_wp2
      go_ret
      exact ⟨rfl, HU.out⟩
end Go.Proofs.Ytlocllcijncllaa
