/- For the statements: graphs that are small, the graph of memory is right, and the calls as the statements make them: contracts. -/
import Derived.Test.YtanhhkdoejnpiaaGreatTa
import Derived.Test.YtanhhkdoejnpiaaGreatTb
import Derived.Test.YtanhhkdoejnpiaaGreatQg
import Derived.Test.YtanhhkdoejnpiaaGreatGh
import Derived.Test.YtanhhkdoejnpiaaGreatGj
import Derived.Test.YtanhhkdoejnpiaaGreatWb
import Derived.Test.YtanhhkdoejnpiaaGreatRc
namespace Go.Proofs.YtanhhkdoejnpiaaGreat.G
open Go.Joins Go.ChangeShapes Go.WideShapes Go.ChangeAt Go.RowKit Go.Deep Go.Shelf Go.Maps
set_option linter.unusedVariables false
set_option linter.unusedSimpArgs false

theorem mem_ptl {n : Nd} {i : Nat} (h : i < n.1.2.1.toNat) (k : isP n i = true) : i ∈ ptl n := List.mem_filter.2 ⟨List.mem_range.2 h, k⟩
theorem rg_of {g : Gr} {B : Nat} (h : rgB g = true) (hi : GrIn g B) : Rg g := by
  unfold rgB at h
  rw [Bool.and_eq_true, List.all_eq_true, List.all_eq_true] at h
  obtain ⟨h1, h2⟩ := h
  have hn : ∀ n ∈ g.1, okHd n.1 = true ∧ (n.2.length : Int) = n.1.2.1 ∧ ∀ i ∈ ptl n, n.2.getD i 0 ≤ (g.1.length : Int) := fun n hm => by
    have := h1 n hm
    unfold ndB at this
    rw [Bool.and_eq_true, Bool.and_eq_true, decide_eq_true_eq, List.all_eq_true] at this
    exact ⟨this.1, this.2.1, fun i hi => of_decide_eq_true (this.2.2 i hi)⟩
  refine ⟨fun n hm => ⟨(hn n hm).1, (hn n hm).2.1⟩, fun n hm => (hi.nd n hm).1, fun n hm => (hi.nd n hm).2, fun n hm i hil hp => (hn n hm).2.2 i (mem_ptl (by have := (hn n hm).2.1; omega) hp), fun row hr hh hm => ?_⟩
  have := h2 row hr
  unfold rowB at this
  have := List.all_eq_true.1 this hh hm
  rw [Bool.and_eq_true, decide_eq_true_eq, decide_eq_true_eq] at this
  exact this
theorem flat_bound {L : List (List Int)} {k : Nat} (h : ∀ xs ∈ L, xs.length ≤ k) : L.flatten.length ≤ L.length * k := by
  induction L with
  | nil => simp
  | cons x r ih =>
    have h1 := h x (by simp)
    have h2 := ih (fun xs hx => h xs (by simp [hx]))
    simp only [List.flatten_cons, List.length_append, List.length_cons]
    rw [Nat.add_mul]
    omega
theorem Rg.fit {g : Gr} (h : Rg g) (hn : g.1.length ≤ 1000) (hs : g.2.length ≤ 1048576) (hb : g.2.flatten.length ≤ 1048576) : FitG g := by
  refine ⟨by omega, ?_, by omega, by omega⟩
  have := flat_bound (L := g.1.map (·.2)) (k := 16) (fun xs hx => by
    obtain ⟨n, hm, rfl⟩ := List.mem_map.1 hx
    obtain ⟨h1, h2⟩ := h.hd n hm
    have := okH_len h1
    omega)
  rw [List.length_map] at this
  omega
/-- A graph that a statement goes on with. -/
structure Sm (g : Gr) : Prop where
  rg : Rg g
  n : g.1.length ≤ 1000
  b : g.2.flatten.length + g.2.length ≤ 1048576
theorem row_le {L : List (List Int)} {row : List Int} (h : row ∈ L) : row.length ≤ L.flatten.length := by
  obtain ⟨a, b, rfl⟩ := List.append_of_mem h
  simp
  omega
theorem Sm.rows {g : Gr} (h : Sm g) : g.2.length ≤ 1048576 ∧ ∀ row ∈ g.2, row.length ≤ 17592186044416 := ⟨by have := h.b; omega, fun row hr => by have := row_le hr; have := h.b; omega⟩
theorem Sm.fit {g : Gr} (h : Sm g) : FitG g := h.rg.fit h.n (by have := h.b; omega) (by have := h.b; omega)
theorem Sm.canon {g : Gr} (h : Sm g) : Sm (canon g) := by
  obtain ⟨a, b, c⟩ := canon_len (g := g) h.n
  exact ⟨canon_rg h.rg h.n, by have := h.n; omega, by have := h.b; omega⟩
theorem small_of {g : Gr} {B : Nat} (h : smallb g = true) (hi : GrIn g B) (hB : B ≤ 1048576) : Sm g ∧ g.1.length ≤ 40 := by
  unfold smallb at h
  rw [Bool.and_eq_true, Bool.and_eq_true, decide_eq_true_eq, decide_eq_true_eq] at h
  exact ⟨⟨rg_of h.1 hi, by omega, by have := hi.st; omega⟩, h.2.1⟩
theorem of_rg {m : Me} {L : List (List Int)} (hwf : m.wf) (hn : m.n ≤ 4096) : Rg (ofG m L) := by
  have hl := rch_len m hn L.flatten
  have hlen : (ofG m L).1.length = (m.rch L.flatten).length := by show (List.map _ _).length = _; rw [List.length_map]
  refine ⟨fun n hm => ?_, fun n hm => ?_, fun n hm x hx => ?_, fun n hm i hi hp => ?_, fun row hr h hh => ?_⟩
  · obtain ⟨a, ha, rfl⟩ := List.mem_map.1 hm
    have hr := (rch_facts m L.flatten).2.1 a ha
    obtain ⟨h1, h2, h3, h4, h5, h6, h7⟩ := real_head hr
    refine ⟨?_, by rw [mp_len]; exact ndm_len hr⟩
    show okH (m.att a) (m.atl a) (m.atm a) = true
    unfold okH
    rw [decide_eq_true h3, decide_eq_true h2]
    rfl
  · obtain ⟨a, ha, rfl⟩ := List.mem_map.1 hm
    obtain ⟨h1, h2, h3, h4, h5, h6, h7⟩ := real_head ((rch_facts m L.flatten).2.1 a ha)
    show 0 ≤ m.atm a ∧ m.atm a ≤ _
    omega
  · obtain ⟨a, ha, rfl⟩ := List.mem_map.1 hm
    obtain ⟨i, hi, rfl⟩ := List.mem_map.1 hx
    have hi' := List.mem_range.1 hi
    split
    · have := pl_bd (m.rch L.flatten) ((ndm m a).2.getD i 0)
      unfold U64
      omega
    · rw [ndm_at hi']
      exact getv_u64 hwf a i
  · obtain ⟨a, ha, rfl⟩ := List.mem_map.1 hm
    rw [mp_len] at hi
    rw [mp_at _ _ hi, if_pos (by rw [mp_isP] at hp; exact hp), hlen]
    exact (pl_bd _ _).2
  · obtain ⟨r, hr', rfl⟩ := List.mem_map.1 hr
    obtain ⟨x, hx, rfl⟩ := List.mem_map.1 hh
    rw [hlen]
    exact pl_bd _ _
theorem of_sm {m : Me} {L : List (List Int)} (hwf : m.wf) (hn : m.n ≤ 500) (hL : L.flatten.length + L.length ≤ 1048576) : Sm (ofG m L) := by
  have hl := rch_2n m L.flatten
  refine ⟨of_rg hwf (by omega), ?_, ?_⟩
  · show (List.map _ _).length ≤ _
    rw [List.length_map]
    omega
  · have e : (ofG m L).2 = L.map (List.map (pl (m.rch L.flatten))) := rfl
    rw [e, ← List.map_flatten, List.length_map, List.length_map]
    exact hL
theorem of_len (m : Me) (L : List (List Int)) : (ofG m L).1.length = (m.rch L.flatten).length ∧ (ofG m L).2.length = L.length := ⟨by show (List.map _ _).length = _; rw [List.length_map], by show (List.map _ _).length = _; rw [List.length_map]⟩

/-! ### The calls -/
/-- A graph in a cell that comes back. -/
def Gq (K : Gr) (n s : Nat) (w : World) (en : Ending) (w' : World) : Prop := ∃ A c B d, en = .returned (.agg #[.slice A n c, .slice B s d]) ∧ GrV w' (.agg #[.slice A n c, .slice B s d]) K ∧ Up w w'
theorem rcan_let {g : Gr} {n s : Nat} (hg : Sm g) (hn : (canon g).1.length = n) (hs : (canon g).2.length = s) (W : World) (u : Value) (hu : GrV W u g) : Calls Tryz.prog 22 #[u] W (Gq (canon g) n s W) := by
  subst hn hs
  refine (rcanon_any u g W hu hg.rg hg.n hg.fit).mono ?_
  rintro e w' ⟨v, rfl, h, k⟩
  obtain ⟨A, c, B, d, rfl, -, -⟩ := h.form
  exact ⟨A, c, B, d, rfl, h, k⟩
/-- Put, as it goes: what is put, and its rows. -/
def PtY (g : Gr) (W n : Nat) (s : Int) (w : World) (e : Ending) (w' : World) : Prop :=
  ∃ P Q c d B k, e = .returned (.tuple #[mev W P Q c d, .slice B n k, .int .i64 0]) ∧ Sits w' (putG g W s) P Q c d ∧ (putG g W s).wf ∧ Rw .u64 w' (.slice B n k) (putR g s) ∧ Up w w'
theorem put_yes {g : Gr} {W n : Nat} {s : Int} (hg : Sm g) (hp : pte g W s = 0) (hn : g.2.length = n) (V : World) (u : Value) (hu : GrV V u g) : Calls Tryz.prog 13 #[u, .int .i64 W, .int .i64 s] V (PtY g W n s V) := by
  subst hn
  have h0 := pte_0 hp
  refine (mput16_any u g W s V hu hg.rg hg.rows hg.n (by unfold I64; omega)).mono fun e w' h => ?_
  unfold Put16 at h
  rw [if_pos hp] at h
  exact h
theorem put_no {g : Gr} {W s x : Int} (hg : Sm g) (hW : I64 W) (hp : pte g W s = x) (hx : x ≠ 0) (V : World) (u : Value) (hu : GrV V u g) : Calls Tryz.prog 13 #[u, .int .i64 W, .int .i64 s] V (PutNo x V) := by
  refine (mput16_any u g W s V hu hg.rg hg.rows hg.n hW).mono fun e w' h => ?_
  unfold Put16 at h
  rw [hp, if_neg hx] at h
  exact h
theorem rput_yes {g : Gr} {W n : Nat} {s : Int} (hg : Sm g) (hp : pte g W s = 0) (hn : g.2.length = n) (V : World) (u : Value) (hu : GrV V u g) : Calls Tryz.prog 14 #[u, .int .i64 W, .int .i64 s] V (PtY g W n s V) := by
  subst hn
  refine (rput16_any u g W s V hu hg.rg hg.b hg.n).mono fun e w' h => ?_
  unfold Put16 at h
  rw [if_pos hp] at h
  exact h
theorem rput_no {g : Gr} {W s x : Int} (hg : Sm g) (hp : pte g W s = x) (hx : x ≠ 0) (V : World) (u : Value) (hu : GrV V u g) : Calls Tryz.prog 14 #[u, .int .i64 W, .int .i64 s] V (PutNo x V) := by
  refine (rput16_any u g W s V hu hg.rg hg.b hg.n).mono fun e w' h => ?_
  unfold Put16 at h
  rw [hp, if_neg hx] at h
  exact h
theorem put_alike {g K : Gr} {W : Nat} {s : Int} (hg : Sm g) (hp : pte g W s = 0) (hK : Sm K) (P Q : Addr) (c d : Nat) (v u : Value) (V : World) (hm : Sits V (putG g W s) P Q c d) (hwf : (putG g W s).wf) (hr : Rw .u64 V v (putR g s)) (hu : GrV V u K) :
    Calls Tryz.prog 20 #[mev W P Q c d, v, u] V fun e w' => e = .returned (.bool (decide (canon g = canon K))) ∧ Up V w' := by
  obtain ⟨h16, hW, hs, hT⟩ := pte_0 hp
  have h := alike_any (putG g W s) P Q c d v (putR g s) u K V hm hwf hr (putR_ok hs (by omega) (by have := hg.b; omega)) (by unfold putR; rw [List.length_map]; have := hg.b; omega) hu hK.rg hK.n hK.fit
  obtain ⟨p1, p2, p3⟩ := put_of (W := W) (s := s) hg.rg hg.n (by omega) (by omega) hs (by omega)
  rw [p2, p3, show (putG g W s).n = W from mk_n _ _ _, Bool.true_and] at h
  exact h
def OfY (K : Gr) (n s : Nat) (w : World) (en : Ending) (w' : World) : Prop := ∃ A c B d, en = .returned (.tuple #[.agg #[.slice A n c, .slice B s d], .int .i64 0]) ∧ GrV w' (.agg #[.slice A n c, .slice B s d]) K ∧ Up w w'
theorem put_of_any {g : Gr} {W n s' : Nat} {s : Int} (hg : Sm g) (hp : pte g W s = 0) (hn : (canon g).1.length = n) (hs' : (canon g).2.length = s') (P Q : Addr) (c d : Nat) (v : Value) (V : World) (hm : Sits V (putG g W s) P Q c d) (hwf : (putG g W s).wf) (hr : Rw .u64 V v (putR g s)) :
    Calls Tryz.prog 11 #[mev W P Q c d, v] V (OfY (canon g) n s' V) := by
  subst hn hs'
  obtain ⟨h16, hW, hs, hT⟩ := pte_0 hp
  have h := of_any (putG g W s) P Q c d v (putR g s) V hm hwf hr (putR_ok hs (by omega) (by have := hg.b; omega)) (by unfold putR; rw [List.length_map]; have := hg.b; omega)
  obtain ⟨p1, p2, p3⟩ := put_of (W := W) (s := s) hg.rg hg.n (by omega) (by omega) hs (by omega)
  obtain ⟨q1, q2⟩ := of_len (putG g W s) (putR g s)
  rw [p2] at q1 q2
  rw [p3, show (putG g W s).n = W from mk_n _ _ _] at h
  refine h.mono fun e w' h => ?_
  rw [if_pos rfl] at h
  unfold OfYes at h
  rw [p2, ← q1, ← q2] at h
  exact h
theorem pte_400 (g : Gr) (s : Int) : pte g 400 s = 0 ∨ pte g 400 s ≠ 0 := by omega
end Go.Proofs.YtanhhkdoejnpiaaGreat.G
