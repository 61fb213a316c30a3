/- The document's Canon of graphs: contracts. -/
import Derived.Test.YtanhhkdoejnpiaaGd
import Derived.Test.YtanhhkdoejnpiaaGf
/-! Of stage 15 -/
namespace Go.Proofs.Ytanhhkdoejnpiaa.G
open Go.Joins Go.ChangeShapes Go.WideShapes Go.ChangeAt Go.RowKit Go.Deep Go.Shelf Go.Maps
set_option linter.unusedVariables false
set_option linter.unusedSimpArgs false

theorem el_row : El 35 43 1 24 := ⟨by
  obtain ⟨i0, h1, h2, h3, h4⟩ := info_parts (P := Try.prog) (e := 43) (z := .slice none 0 0) (size := 1) (bytes := 24) (by kernel_rfl)
  exact ⟨i0, _, h1, h2, h3, h4, rfl⟩, Try.underlying35, by decide, by decide⟩
/-- Rows of the call's own. -/
def OwR (base : Nat) (w : World) (us : List Value) (L : List (List Int)) : Prop := us.length = L.length ∧ ∀ (j : Nat) (u : Value) (xs : List Int), us[j]? = some u → L[j]? = some xs → w.ownsRow base 3 1 u xs.length (xs.map (Value.int .i64))
theorem sl_own {k : IntKind} {w : World} {n₀ n : Nat} {e : TypeId} {u : Value} {xs : List Int} (h : w.ownsRow n₀ e 1 u n (xs.map (Value.int k))) (hl : xs.length = n) : Sl k w u xs := by
  obtain ⟨A, c, rfl⟩ := own_slice h
  obtain ⟨_, q1, q2, q3, q4⟩ := rv_of_own h (by simp [hl])
  exact ⟨A, c, by rw [hl], by omega, q2, q3, q4⟩
section
variable {base : Nat} {w w' : World} {us : List Value} {L : List (List Int)}
theorem OwR.keep (h : OwR base w us L) (hk : ∀ b cs, Blk w b 3 cs → Blk w' b 3 cs) : OwR base w' us L := ⟨h.1, fun j u xs h1 h2 => own_keep (h.2 j u xs h1 h2) hk⟩
theorem OwR.up (h : OwR base w us L) (k : Up w w') : OwR base w' us L := h.keep fun b cs hb => hb.up k
theorem OwR.gd (h : OwR base w us L) : Gd .i64 w us L := ⟨h.1, fun j u xs h1 h2 => sl_own (h.2 j u xs h1 h2) rfl⟩
theorem OwR.nil (base : Nat) (w : World) : OwR base w [] [] := ⟨rfl, fun j u xs h => by simp at h⟩
theorem OwR.snoc {u : Value} {xs : List Int} (h : OwR base w us L) (hu : w.ownsRow base 3 1 u xs.length (xs.map (Value.int .i64))) : OwR base w (us ++ [u]) (L ++ [xs]) := by
  refine ⟨by simp [h.1], fun j v ys h1 h2 => ?_⟩
  rcases Nat.lt_or_ge j us.length with q | q
  · rw [List.getElem?_append_left q] at h1
    rw [List.getElem?_append_left (by rw [← h.1]; exact q)] at h2
    exact h.2 j v ys h1 h2
  · rw [List.getElem?_append_right q] at h1
    rw [List.getElem?_append_right (by rw [← h.1]; exact q)] at h2
    have hj : j - us.length = 0 := by
      rcases Nat.eq_zero_or_pos (j - us.length) with q2 | q2
      · exact q2
      · rw [List.getElem?_eq_none (by rw [List.length_singleton]; exact q2)] at h1; cases h1
    rw [hj] at h1
    rw [← h.1, hj] at h2
    simp at h1 h2
    subst h1
    subst h2
    exact hu
end
/-- A graph once more: its nodes and its rows are a call's own, the nodes' words are shared. -/
structure OwnC (base : Nat) (w : World) (vn vs : Value) (g : Gr) (us us2 : List Value) : Prop where
  nodes : w.ownsRow base 52 4 vn g.1.length (nvs g.1 us)
  own : w.ownsRow base 43 1 vs g.2.length us2
  rows : OwR base w us2 g.2
theorem OwnC.up {base : Nat} {w w' : World} {vn vs : Value} {g : Gr} {us us2 : List Value} (h : OwnC base w vn vs g us us2) (k : Up w w') : OwnC base w' vn vs g us us2 := ⟨own_up h.nodes k, own_up h.own k, h.rows.up k⟩
theorem GrV.parts {w : World} {A B : Option Addr} {n c s d : Nat} {g : Gr} (h : GrV w (.agg #[.slice A n c, .slice B s d]) g) : ∃ us, NsW w (.slice A n c) us g.1 ∧ Rw .i64 w (.slice B s d) g.2 := by
  obtain ⟨a, b, e, ⟨us, h1⟩, h2⟩ := h
  simp only [Value.agg.injEq, Array.mk.injEq, List.cons.injEq, and_true] at e
  obtain ⟨rfl, rfl⟩ := e
  exact ⟨us, h1, h2⟩
theorem NsW.gd {w : World} {v : Value} {us : List Value} {ns : List Nd} (h : NsW w v us ns) : Gd .u64 w us (ns.map (·.2)) := by
  obtain ⟨A, c, _, _, _, _, _, h5⟩ := h
  exact h5

end Go.Proofs.Ytanhhkdoejnpiaa.G
/-! Of stage 15 -/
namespace Go.Proofs.Ytanhhkdoejnpiaa.G
open Go.Joins Go.ChangeShapes Go.WideShapes Go.ChangeAt Go.RowKit Go.Deep Go.Shelf Go.Maps
set_option linter.unusedVariables false
set_option linter.unusedSimpArgs false

/-- A row of numbers that is read so wherever such blocks are kept. -/
abbrev SlR (w : World) (u : Value) (o : List Int) : Prop := Rob tInt (fun W => Sl .i64 W u o) w
theorem SlR.own {w : World} {n₀ n : Nat} {u : Value} {xs : List Int} (h : w.ownsRow n₀ 3 1 u n (xs.map (Value.int .i64))) (hl : xs.length = n) : SlR w u xs := fun w' k => sl_own (own_keep h (fun b cs hb => k b _ cs rfl hb)) hl
section
variable {g : Gr} {w wr wc wb : World} {va vb vn vs v2 uo u : Value} {o : List Int} {OB j : Nat} {us us2 : List Value}
theorem nvs_hds : ∀ (ns ms : List Nd) (us : List Value), ns.map (·.1) = ms.map (·.1) → nvs ns us = nvs ms us
  | [], [], us, _ => rfl
  | [], m :: r, us, h => by simp at h
  | n :: r, [], us, h => by simp at h
  | n :: r, m :: r', [], h => rfl
  | n :: r, m :: r', u :: us, h => by
    simp only [List.map_cons, List.cons.injEq] at h
    simp [nvs, h.1, nvs_hds r r' us h.2]
end

end Go.Proofs.Ytanhhkdoejnpiaa.G
