/- Rows of rows: plain facts (what is handed in, what is made, what is told of it). -/
import Derived.Test.YtpbbbgcafphplaaSk3
namespace Go.Proofs.Ytpbbbgcafphplaa
open Go.Joins Go.ChangeShapes Go.WideShapes Go.ChangeAt Go.RowKit Go.Deep Go.Shelf Go.Maps
set_option linter.unusedVariables false
set_option linter.unusedSimpArgs false

/-- A slice of rows of words. -/
def Rw (w : World) (v : Value) (L : List (List Int)) : Prop := ∃ A c, v = .slice A L.length c ∧ L.length ≤ c ∧ c ≤ maxLen ∧ (A = none → c = 0) ∧
  (0 < L.length → ∃ p, A = some p ∧ p.block < w.heap.size ∧ ∀ j xs, L[j]? = some xs → ∃ u, w.cell? (p.add j) = some u ∧ Sl w u xs)
theorem Rw.up {w w' : World} {v : Value} {L : List (List Int)} (h : Rw w v L) (k : Up w w') : Rw w' v L := by
  obtain ⟨A, c, e, h1, h2, h3, h4⟩ := h
  refine ⟨A, c, e, h1, h2, h3, fun q => ?_⟩
  obtain ⟨p, e2, hp, h5⟩ := h4 q
  refine ⟨p, e2, Nat.lt_of_lt_of_le hp k.size, fun j xs hj => ?_⟩
  obtain ⟨u, hu, hs⟩ := h5 j xs hj
  exact ⟨u, (Below.cell k (by rw [block_of_add]; exact hp)).trans hu, hs.up k⟩
theorem Rw.at_ {w : World} {A : Option Addr} {n c x : Nat} {L : List (List Int)} (h : Rw w (.slice A n c) L) (hx : x < n) : ∃ p u, A = some p ∧ w.cell? (p.add x) = some u ∧ Sl w u (L.getD x []) := by
  obtain ⟨A', c', e, h1, h2, h3, h4⟩ := h
  cases e
  obtain ⟨p, e2, hp, h5⟩ := h4 (by omega)
  obtain ⟨u, hu, hs⟩ := h5 x L[x] (List.getElem?_eq_getElem hx)
  exact ⟨p, u, e2, hu, by simpa [List.getD, List.getElem?_eq_getElem hx] using hs⟩
theorem Rw.max {w : World} {v : Value} {L : List (List Int)} (h : Rw w v L) : L.length ≤ maxLen := by
  obtain ⟨A, c, e, h1, h2, _⟩ := h
  omega
/-- All words are words; all rows may be made again. -/
structure Fit (L : List (List Int)) : Prop where
  u : ∀ xs ∈ L, ∀ x ∈ xs, U64 x
  l : ∀ xs ∈ L, xs.length ≤ 17592186044416
  n : L.length ≤ 5864062014805
theorem getD_mem {α : Type} {L : List α} {x : Nat} (d : α) (h : x < L.length) : L.getD x d ∈ L := by simp [List.getD, List.getElem?_eq_getElem h]
theorem take_one {α : Type} {xs : List α} {x : Nat} (d : α) (h : x < xs.length) : xs.take (x + 1) = xs.take x ++ [xs.getD x d] := by
  rw [List.take_succ_eq_append_getElem h]
  simp [List.getD, List.getElem?_eq_getElem h]
theorem drop_one {α : Type} {xs : List α} {x : Nat} (d : α) (h : x < xs.length) : xs.drop x = xs.getD x d :: xs.drop (x + 1) := by
  rw [List.drop_eq_getElem_cons h]
  simp [List.getD, List.getElem?_eq_getElem h]

/-- Slices stand in a row. -/
def Slices (us : List Value) : Prop := ∀ u ∈ us, ∃ A n c, u = .slice A n c
theorem Row.apartS {w : World} {p : Addr} {xs : List Int} {G : Nat} {t : TypeId} {us : List Value} (h : Row w p xs) (hx : 0 < xs.length) (hb : Blk w G t us.toArray) (hu : Slices us) : p.block ≠ G := by
  intro e
  have hc := h.2 0 xs[0] (List.getElem?_eq_getElem hx)
  unfold Blk at hb
  unfold World.cell? at hc
  rw [block_of_add, e, hb] at hc
  simp only at hc
  split at hc
  · cases hc
  · simp only [List.getElem?_toArray] at hc
    obtain ⟨A, n, c, e2⟩ := hu _ (List.mem_of_getElem? hc)
    cases e2
theorem Sl.kpG {w w' : World} {v : Value} {xs : List Int} {G : Nat} {t : TypeId} {us : List Value} {S : List Nat} (h : Sl w v xs) (hb : Blk w G t us.toArray) (hu : Slices us) (k : Kp (G :: S) w w') (hS : ∀ s ∈ S, w.heap.size ≤ s) : Sl w' v xs := by
  obtain ⟨A, c, e, h1, h2, h3, h4, h5⟩ := h
  refine ⟨A, c, e, h1, h2, h3, h4, fun q => ?_⟩
  obtain ⟨p, e2, hr⟩ := h5 q
  refine ⟨p, e2, hr.kp k (fun hm => ?_)⟩
  rcases List.mem_cons.1 hm with r | r
  · exact hr.apartS q hb hu r
  · have := hS _ r
    have := hr.1
    omega
theorem FnOk.kp {w w' : World} {B M : Nat} {xs : List Int} {S : List Nat} (h : FnOk w B M xs) (k : Kp S w w') (hB : B ∉ S) (hM : M ∉ S) : FnOk w' B M xs := by
  obtain ⟨h1, n, D, h2, h3⟩ := h
  refine ⟨h1.kp k hB, n, D, ?_, h3⟩
  obtain ⟨es, clock, hb, r⟩ := h2
  exact ⟨es, clock, (k.block M (Array.getElem?_eq_some_iff.1 hb).1 hM).trans hb, r⟩
/-- A block of rows. -/
def Grid (w : World) (G : Nat) (us : List Value) (K : List (List Int)) : Prop := Blk w G 22 us.toArray ∧ us.length = K.length ∧ Slices us ∧ ∀ (j : Nat) (u : Value) (xs : List Int), us[j]? = some u → K[j]? = some xs → Sl w u xs
theorem Grid.up {w w' : World} {G : Nat} {us : List Value} {K : List (List Int)} (h : Grid w G us K) (k : Up w w') : Grid w' G us K :=
  ⟨h.1.up k, h.2.1, h.2.2.1, fun j u xs h1 h2 => (h.2.2.2 j u xs h1 h2).up k⟩
theorem Sl.slice {w : World} {v : Value} {xs : List Int} (h : Sl w v xs) : ∃ A n c, v = .slice A n c := by
  obtain ⟨A, c, e, _⟩ := h
  exact ⟨_, _, _, e⟩
theorem Slices.set {us : List Value} (h : Slices us) (x : Nat) {u : Value} (hu : ∃ A n c, u = .slice A n c) : Slices (us.set x u) := fun y hy => by
  rcases List.mem_or_eq_of_mem_set hy with q | q
  · exact h y q
  · rw [q]; exact hu
/-- A row of the grid is another one now; the row's own block may be written. -/
theorem Grid.put {w w' : World} {G x : Nat} {us : List Value} {K : List (List Int)} {u : Value} {xs : List Int} {S : List Nat} (h : Grid w G us K) (hb : Blk w' G 22 (us.set x u).toArray) (hu : Sl w' u xs) (k : Kp (G :: S) w w') (hS : ∀ s ∈ S, w.heap.size ≤ s) : Grid w' G (us.set x u) (K.set x xs) := by
  refine ⟨hb, by simp [h.2.1], h.2.2.1.set x hu.slice, fun j v ys hv hy => ?_⟩
  by_cases hj : j = x
  · subst hj
    have hl : j < us.length := by
      rcases Nat.lt_or_ge j us.length with q | q
      · exact q
      · rw [List.getElem?_eq_none (by simpa using q)] at hv; cases hv
    rw [List.getElem?_set_self hl] at hv
    rw [List.getElem?_set_self (by rw [← h.2.1]; exact hl)] at hy
    cases hv
    cases hy
    exact hu
  · rw [List.getElem?_set_ne (Ne.symm hj)] at hv hy
    exact (h.2.2.2 j v ys hv hy).kpG h.1 h.2.2.1 k hS
theorem info_words : (Try.prog.info? 22).map (fun i => (i.zero, i.size, i.bytes)) = some (some (.slice none 0 0), 1, 24) := by kernel_rfl
theorem made_rows (n : Nat) : madeCells #[.slice none 0 0] n = (List.replicate n (Value.slice none 0 0)).toArray := by
  apply Array.ext
  · simp [size_madeCells]
  · intro i h1 h2
    simp [madeCells, Nat.mod_one]
theorem make_rows (n : Nat) (hn : n ≤ 5864062014805) (w : World) :
    (Instr.makeSlice 24 (.int .i64 (n : Int)) (.int .i64 (n : Int))).run Try.prog w = .ok (.slice (some ⟨w.heap.size, 0, none⟩) n n) (w.alloc (.cells (List.replicate n (Value.slice none 0 0)).toArray 22)) := by
  have := run_make_row' (P := Try.prog) 24 22 (.slice none 0 0) 24 Try.underlying24 info_words rfl .i64 .i64 n (by omega) (by omega) w
  rw [made_rows] at this
  exact this
theorem Grid.made (w : World) (n : Nat) : Grid (w.alloc (.cells (List.replicate n (Value.slice none 0 0)).toArray 22)) w.heap.size (List.replicate n (Value.slice none 0 0)) (List.replicate n []) :=
  ⟨Blk.new _ _ _, by simp, fun u hu => by rw [List.eq_of_mem_replicate hu]; exact ⟨_, _, _, rfl⟩, fun j u xs h1 h2 => by
    rw [List.eq_of_mem_replicate (List.mem_of_getElem? h1), List.eq_of_mem_replicate (List.mem_of_getElem? h2)]
    exact Sl.nil _⟩
theorem Grid.rw {w : World} {G c : Nat} {us : List Value} {K : List (List Int)} (h : Grid w G us K) (h1 : K.length ≤ c) (h2 : c ≤ maxLen) : Rw w (.slice (some ⟨G, 0, none⟩) K.length c) K := by
  refine ⟨_, c, rfl, h1, h2, fun q => (by cases q), fun _ => ⟨_, rfl, h.1.lt, fun j xs hj => ?_⟩⟩
  have hl : j < us.length := by
    rw [h.2.1]
    rcases Nat.lt_or_ge j K.length with q | q
    · exact q
    · rw [List.getElem?_eq_none q] at hj; cases hj
  refine ⟨us[j], ?_, h.2.2.2 j _ xs (List.getElem?_eq_getElem hl) hj⟩
  have e := h.1.cell j
  rw [List.getElem?_toArray, List.getElem?_eq_getElem hl] at e
  rw [add_zero']
  exact e
theorem Grid.at_ {w : World} {G x : Nat} {us : List Value} {K : List (List Int)} (h : Grid w G us K) (hx : x < K.length) : ∃ u, us[x]? = some u ∧ w.cell? ⟨G, x, none⟩ = some u ∧ Sl w u (K.getD x []) := by
  have hl : x < us.length := by rw [h.2.1]; exact hx
  refine ⟨us[x], List.getElem?_eq_getElem hl, ?_, ?_⟩
  · have e := h.1.cell x
    rw [List.getElem?_toArray, List.getElem?_eq_getElem hl] at e
    exact e
  · have := h.2.2.2 x us[x] K[x] (List.getElem?_eq_getElem hl) (List.getElem?_eq_getElem hx)
    simpa [List.getD, List.getElem?_eq_getElem hx] using this
/-- What a turned address becomes. -/
def tof (fs ts : List Int) (a : Int) : Int := if a ∈ fs.take (min fs.length ts.length) then ts.getD ((fs.take (min fs.length ts.length)).idxOf a) 0 else a
theorem idx_lt {fs ts : List Int} {a : Int} (h : a ∈ fs.take (min fs.length ts.length)) : (fs.take (min fs.length ts.length)).idxOf a < ts.length := by
  have h1 := List.idxOf_lt_length_iff.2 h
  have h2 := List.length_take_le (min fs.length ts.length) fs
  omega
theorem tof_u64 {fs ts : List Int} (hu : ∀ x ∈ ts, U64 x) {a : Int} (ha : U64 a) : U64 (tof fs ts a) := by
  unfold tof
  split
  · rename_i h
    exact hu _ (getD_mem 0 (idx_lt h))
  · exact ha
def turned (fs ts : List Int) (L : List (List Int)) : List (List Int) := L.map fun xs => xs.map (tof fs ts)
theorem turned_fit {fs ts : List Int} {L : List (List Int)} (h : Fit L) (hu : ∀ x ∈ ts, U64 x) : Fit (turned fs ts L) := by
  refine ⟨fun xs hx x hxx => ?_, fun xs hx => ?_, by simpa [turned] using h.n⟩
  · obtain ⟨ys, hy, rfl⟩ := List.mem_map.1 hx
    obtain ⟨y, hyy, rfl⟩ := List.mem_map.1 hxx
    exact tof_u64 hu (h.u ys hy y hyy)
  · obtain ⟨ys, hy, rfl⟩ := List.mem_map.1 hx
    simpa using h.l ys hy
/-- Rows come. -/
def RwPost (L : List (List Int)) (w : World) (e : Ending) (w' : World) : Prop := ∃ v, e = .returned v ∧ Rw w' v L ∧ Up w w'
end Go.Proofs.Ytpbbbgcafphplaa
