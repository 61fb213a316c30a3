/- Rows of numbers turned into rows of addresses (view.turned, the other way): what the loops keep. -/
import Derived.Test.YtanhhkdoejnpiaaGreatQc
namespace Go.Proofs.YtanhhkdoejnpiaaGreat.G
open Go.Joins Go.ChangeShapes Go.WideShapes Go.ChangeAt Go.RowKit Go.Deep Go.Shelf Go.Maps
set_option linter.unusedVariables false
set_option linter.unusedSimpArgs false

theorem OwU.nils (base : Nat) (w : World) (n : Nat) : OwU base w (List.replicate n (.slice none 0 0)) (List.replicate n []) := by
  refine ⟨by simp, fun k u xs h1 h2 => ?_⟩
  rw [List.getElem?_replicate] at h1 h2
  split at h1
  · cases h1
    rw [if_pos (by assumption)] at h2
    cases h2
    exact World.ownsRow_nil _ _ _ _
  · cases h1
theorem OwU.set {base : Nat} {w : World} {us : List Value} {K : List (List Int)} (h : OwU base w us K) (x : Nat) {u : Value} {xs : List Int} (hu : w.ownsRow base 67 1 u xs.length (xs.map (Value.int .u64))) : OwU base w (us.set x u) (K.set x xs) := by
  refine ⟨by simp [h.1], fun k v ys h1 h2 => ?_⟩
  rw [List.getElem?_set] at h1 h2
  by_cases q : x = k
  · rw [if_pos q] at h1 h2
    split at h1
    · split at h2
      · cases h1; cases h2; exact hu
      · cases h2
    · cases h1
  · rw [if_neg q] at h1 h2
    exact h.2 k v ys h1 h2
structure TvI (G : Nat) (w : World) (us : List Value) (K : List (List Int)) (wr : World) : Prop where
  bG : Blk wr G 22 us.toArray
  rows : OwU w.heap.size wr us K
  up : Up w wr
def TvO_ (F : Int → Int) (L : List (List Int)) (G : Nat) (w : World) (i : Value) (wr : World) : Prop :=
  ∃ (x : Nat) (us : List Value), x ≤ L.length ∧ i = .int .i64 x ∧ (∀ j, x ≤ j → j < L.length → us[j]? = some (.slice none 0 0)) ∧ TvI G w us (partR F L x) wr
def TvN_ (F : Int → Int) (row : List Int) (G x : Nat) (us : List Value) (w wb : World) (i : Value) (wr : World) : Prop :=
  ∃ (h : Nat) (u : Value), h ≤ row.length ∧ i = .int .i64 h ∧ wr.ownsRow wb.heap.size 67 1 u h (((row.take h).map F).map (Value.int .u64)) ∧ Blk wr G 22 (us.set x u).toArray ∧ Up w wr ∧ Kp [G] wb wr
def TvPost (F : Int → Int) (L : List (List Int)) (w : World) (e : Ending) (w' : World) : Prop :=
  ∃ G, e = .returned (.slice (some ⟨G, 0, none⟩) L.length L.length) ∧ (∀ V : World, (∀ b t cs, t ≠ 25 → Blk w' b t cs → Blk V b t cs) → Rw .u64 V (.slice (some ⟨G, 0, none⟩) L.length L.length) (L.map fun row => row.map F)) ∧ Up w w'
theorem run_makeRowsU (n : Nat) (hn : n ≤ 1048576) (w : World) :
    (Instr.makeSlice 26 (.int .i64 (n : Int)) (.int .i64 (n : Int))).run Tryz.prog w = .ok (.slice (some ⟨w.heap.size, 0, none⟩) n n) (w.alloc (.cells (List.replicate n (Value.slice none 0 0)).toArray 22)) := by
  have := run_make_row' (P := Tryz.prog) 26 22 (.slice none 0 0) 24 Tryz.underlying26 (by kernel_rfl) rfl .i64 .i64 n (by omega) (by omega) w
  rw [show madeCells #[Value.slice none 0 0] n = (List.replicate n (Value.slice none 0 0)).toArray from by
    apply Array.ext
    · simp [size_madeCells]
    · intro i h1 h2
      simp [madeCells, Nat.mod_one]] at this
  exact this
theorem TvI.rw {F : Int → Int} {G : Nat} {w wr : World} {us : List Value} {L : List (List Int)} (h : TvI G w us (L.map fun row => row.map F) wr) (hs : L.length ≤ 1048576) : Rw .u64 wr (.slice (some ⟨G, 0, none⟩) L.length L.length) (L.map fun row => row.map F) := by
  have hl := h.rows.1
  rw [List.length_map] at hl
  refine ⟨us, some ⟨G, 0, none⟩, L.length, by rw [List.length_map], by rw [List.length_map]; exact Nat.le_refl _, by unfold maxLen; omega, fun e => (by cases e), rv_of_blk h.bG (fun j v hj => by simpa using hj), h.rows.gd⟩
theorem TvI.rwk {F : Int → Int} {G : Nat} {w wr V : World} {us : List Value} {L : List (List Int)} (h : TvI G w us (L.map fun row => row.map F) wr) (hs : L.length ≤ 1048576) (k : ∀ b t cs, t ≠ 25 → Blk wr b t cs → Blk V b t cs) : Rw .u64 V (.slice (some ⟨G, 0, none⟩) L.length L.length) (L.map fun row => row.map F) := by
  have hl := h.rows.1
  rw [List.length_map] at hl
  refine ⟨us, some ⟨G, 0, none⟩, L.length, by rw [List.length_map], by rw [List.length_map]; exact Nat.le_refl _, by unfold maxLen; omega, fun e => (by cases e), rv_of_blk (k _ _ _ (by decide) h.bG) (fun j v hj => by simpa using hj), (h.rows.keep (fun b cs hb => k b _ cs (by decide) hb)).gd⟩
end Go.Proofs.YtanhhkdoejnpiaaGreat.G
