/- Rows of numbers of either kind, rows of such rows, rows of nodes, graphs: how they are read. -/
import Derived.Test.YtlocllcijncllaaBs2
import Derived.Test.YtlocllcijncllaaHd4
import Derived.ArgAppend
import Derived.Lib.SliceRun
import Derived.Lib.AppendZerosOnto
namespace Go.Proofs.Ytlocllcijncllaa
open Go.Joins Go.ChangeShapes Go.WideShapes Go.ChangeAt Go.RowKit Go.Deep Go.Shelf Go.Maps
set_option linter.unusedVariables false
set_option linter.unusedSimpArgs false

/-- A node: its head, its fields. -/
abbrev Nd := (Int × Int × Int) × List Int
/-- A graph: its nodes, the threads' handles. -/
abbrev Gr := List Nd × List (List Int)

/-- Values stand in a row at an address. -/
def RV (w : World) (A : Option Addr) (vs : List Value) : Prop := vs ≠ [] → ∃ p, A = some p ∧ p.block < w.heap.size ∧ ∀ j v, vs[j]? = some v → w.cell? (p.add j) = some v
theorem RV.up {w w' : World} {A : Option Addr} {vs : List Value} (h : RV w A vs) (k : Up w w') : RV w' A vs := fun q => by
  obtain ⟨p, e, hp, hc⟩ := h q
  exact ⟨p, e, Nat.lt_of_lt_of_le hp k.size, fun j v hj => (Below.cell k (by rw [block_of_add]; exact hp)).trans (hc j v hj)⟩
theorem RV.nil (w : World) (A : Option Addr) : RV w A [] := fun q => absurd rfl q
theorem RV.at_ {w : World} {A : Option Addr} {vs : List Value} (h : RV w A vs) {j : Nat} (hj : j < vs.length) : ∃ p, A = some p ∧ w.cell? (p.add j) = some vs[j] := by
  obtain ⟨p, e, hp, hc⟩ := h (fun q => by rw [q] at hj; cases hj)
  exact ⟨p, e, hc j _ (List.getElem?_eq_getElem hj)⟩
theorem RV.kp {S : List Nat} {w w' : World} {A : Option Addr} {vs : List Value} (h : RV w A vs) (k : Kp S w w') (hS : ∀ p, A = some p → vs ≠ [] → p.block ∉ S) : RV w' A vs := fun q => by
  obtain ⟨p, e, hp, hc⟩ := h q
  refine ⟨p, e, Nat.lt_of_lt_of_le hp k.size, fun j v hj => ?_⟩
  have := hc j v hj
  unfold World.cell? at this ⊢
  rw [block_of_add] at this ⊢
  rw [k.block p.block hp (hS p e q)]
  exact this
theorem rv_of_blk {w : World} {g : Nat} {t : TypeId} {cs : Array Value} {vs : List Value} (h : Blk w g t cs) (hv : ∀ (j : Nat) (v : Value), vs[j]? = some v → cs[j]? = some v) : RV w (some ⟨g, 0, none⟩) vs :=
  fun _ => ⟨_, rfl, h.lt, fun j v hj => by rw [add_zero', h.cell j]; exact hv j v hj⟩
theorem rv_of_own {w : World} {n₀ : Nat} {e : TypeId} {size n : Nat} {A : Option Addr} {k c : Nat} {vs : List Value} (h : w.ownsRow n₀ e size (.slice A k c) n vs) (hl : vs.length = n * size) : k = n ∧ n ≤ c ∧ c ≤ maxLen ∧ (A = none → c = 0) ∧ RV w A vs := by
  rcases h.2 with ⟨e1, h0⟩ | ⟨g, cap, cur, e1, hb, hg, h1, h2, h3, h4⟩
  · cases e1
    subst h0
    refine ⟨rfl, Nat.zero_le _, Nat.zero_le _, fun _ => rfl, fun q => absurd (List.eq_nil_of_length_eq_zero (by omega)) q⟩
  · cases e1
    refine ⟨rfl, h1, h2, fun q => (by cases q), rv_of_blk hg fun j v hj => ?_⟩
    have hlt : j < vs.length := by
      rcases Nat.lt_or_ge j vs.length with q | q
      · exact q
      · rw [List.getElem?_eq_none q] at hj; cases hj
    rw [← h4, List.getElem?_take, if_pos (by omega)] at hj
    simpa using hj
theorem own_slice {w : World} {n₀ : Nat} {e : TypeId} {size n : Nat} {v : Value} {vs : List Value} (h : w.ownsRow n₀ e size v n vs) : ∃ A c, v = .slice A n c := by
  rcases h.2 with ⟨e1, h0⟩ | ⟨g, cap, cur, e1, _⟩
  · exact ⟨none, 0, by rw [e1, h0]⟩
  · exact ⟨_, _, e1⟩

/-- A slice of numbers. -/
def Sl (k : IntKind) (w : World) (v : Value) (xs : List Int) : Prop := ∃ A c, v = .slice A xs.length c ∧ xs.length ≤ c ∧ c ≤ maxLen ∧ (A = none → c = 0) ∧ RV w A (xs.map (Value.int k))
section
variable {k : IntKind} {w w' : World} {v : Value} {xs : List Int}
theorem Sl.up (h : Sl k w v xs) (u : Up w w') : Sl k w' v xs := by
  obtain ⟨A, c, e, h1, h2, h3, h4⟩ := h
  exact ⟨A, c, e, h1, h2, h3, h4.up u⟩
theorem Sl.nil (k : IntKind) (w : World) : Sl k w (.slice none 0 0) [] := ⟨none, 0, rfl, Nat.le_refl _, Nat.zero_le _, fun _ => rfl, RV.nil _ _⟩
theorem Sl.slice (h : Sl k w v xs) : ∃ A c, v = .slice A xs.length c := by
  obtain ⟨A, c, e, _⟩ := h
  exact ⟨_, _, e⟩
theorem Sl.rv {A : Option Addr} {n c : Nat} (h : Sl k w (.slice A n c) xs) : xs.length = n ∧ RV w A (xs.map (Value.int k)) ∧ n ≤ c ∧ c ≤ maxLen ∧ (A = none → c = 0) := by
  obtain ⟨A', c', e, h1, h2, h3, h4⟩ := h
  cases e
  exact ⟨rfl, h4, h1, h2, h3⟩
theorem Sl.len {A : Option Addr} {n c : Nat} (h : Sl k w (.slice A n c) xs) : xs.length = n := h.rv.1
theorem Sl.at_ {A : Option Addr} {n c x : Nat} (h : Sl k w (.slice A n c) xs) (hx : x < n) : ∃ p, A = some p ∧ w.cell? (p.add x) = some (.int k (xs.getD x 0)) := by
  obtain ⟨e, h4, _⟩ := h.rv
  have hx' : x < (xs.map (Value.int k)).length := by rw [List.length_map]; omega
  obtain ⟨p, e2, hc⟩ := h4.at_ hx'
  refine ⟨p, e2, ?_⟩
  rw [hc]
  have : x < xs.length := by omega
  simp [List.getD, List.getElem?_eq_getElem this]
theorem Sl.max (h : Sl k w v xs) : xs.length ≤ maxLen := by
  obtain ⟨A, c, e, h1, h2, _⟩ := h
  omega
end

/-- Values are slices of the rows. -/
def Gd (k : IntKind) (w : World) (us : List Value) (L : List (List Int)) : Prop := us.length = L.length ∧ ∀ (j : Nat) (u : Value) (xs : List Int), us[j]? = some u → L[j]? = some xs → Sl k w u xs
theorem Gd.up {k : IntKind} {w w' : World} {us : List Value} {L : List (List Int)} (h : Gd k w us L) (u : Up w w') : Gd k w' us L := ⟨h.1, fun j a xs h1 h2 => (h.2 j a xs h1 h2).up u⟩
theorem Gd.at_ {k : IntKind} {w : World} {us : List Value} {L : List (List Int)} (h : Gd k w us L) {j : Nat} (hj : j < L.length) : ∃ u, us[j]? = some u ∧ Sl k w u (L.getD j []) := by
  have h1 : j < us.length := by rw [h.1]; exact hj
  exact ⟨us[j], List.getElem?_eq_getElem h1, by
    have := h.2 j us[j] L[j] (List.getElem?_eq_getElem h1) (List.getElem?_eq_getElem hj)
    simpa [List.getD, List.getElem?_eq_getElem hj] using this⟩
/-- A slice of rows. -/
def RwW (k : IntKind) (w : World) (v : Value) (us : List Value) (L : List (List Int)) : Prop := ∃ A c, v = .slice A L.length c ∧ L.length ≤ c ∧ c ≤ maxLen ∧ (A = none → c = 0) ∧ RV w A us ∧ Gd k w us L
def Rw (k : IntKind) (w : World) (v : Value) (L : List (List Int)) : Prop := ∃ us, RwW k w v us L
section
variable {k : IntKind} {w w' : World} {v : Value} {us : List Value} {L : List (List Int)}
theorem RwW.up (h : RwW k w v us L) (u : Up w w') : RwW k w' v us L := by
  obtain ⟨A, c, e, h1, h2, h3, h4, h5⟩ := h
  exact ⟨A, c, e, h1, h2, h3, h4.up u, h5.up u⟩
theorem Rw.up (h : Rw k w v L) (u : Up w w') : Rw k w' v L := by
  obtain ⟨us, h⟩ := h
  exact ⟨us, h.up u⟩
theorem Rw.nil (k : IntKind) (w : World) : Rw k w (.slice none 0 0) [] := ⟨[], none, 0, rfl, Nat.le_refl _, Nat.zero_le _, fun _ => rfl, RV.nil _ _, rfl, fun j u xs h => by simp at h⟩
theorem RwW.at_ {A : Option Addr} {n c x : Nat} (h : RwW k w (.slice A n c) us L) (hx : x < n) : ∃ p u, A = some p ∧ us[x]? = some u ∧ w.cell? (p.add x) = some u ∧ Sl k w u (L.getD x []) := by
  obtain ⟨A', c', e, h1, h2, h3, h4, h5⟩ := h
  cases e
  obtain ⟨u, hu, hs⟩ := h5.at_ hx
  have hl : x < us.length := by rw [h5.1]; exact hx
  obtain ⟨p, e2, hc⟩ := h4.at_ hl
  rw [List.getElem?_eq_getElem hl] at hu
  cases hu
  exact ⟨p, _, e2, List.getElem?_eq_getElem hl, hc, hs⟩
theorem Rw.at_ {A : Option Addr} {n c x : Nat} (h : Rw k w (.slice A n c) L) (hx : x < n) : ∃ p u, A = some p ∧ w.cell? (p.add x) = some u ∧ Sl k w u (L.getD x []) := by
  obtain ⟨us, h⟩ := h
  obtain ⟨p, u, e, _, hc, hs⟩ := h.at_ hx
  exact ⟨p, u, e, hc, hs⟩
theorem Rw.slice (h : Rw k w v L) : ∃ A c, v = .slice A L.length c ∧ L.length ≤ maxLen := by
  obtain ⟨us, A, c, e, h1, h2, _⟩ := h
  exact ⟨_, _, e, by omega⟩
theorem Rw.len {A : Option Addr} {n c : Nat} (h : Rw k w (.slice A n c) L) : L.length = n := by
  obtain ⟨us, A', c', e, _⟩ := h
  cases e
  rfl
end

/-- A node's cells. -/
def nvs : List Nd → List Value → List Value
  | n :: r, u :: us => .int .i64 n.1.1 :: .int .i64 n.1.2.1 :: .int .u64 n.1.2.2 :: u :: nvs r us
  | _, _ => []
theorem nvs_len : ∀ (ns : List Nd) (us : List Value), us.length = ns.length → (nvs ns us).length = ns.length * 4
  | [], _, _ => rfl
  | n :: r, [], h => by cases h
  | n :: r, u :: us, h => by simp only [nvs, List.length_cons, nvs_len r us (by simpa using h)]; omega
theorem nvs_at : ∀ (ns : List Nd) (us : List Value) (j : Nat) (n : Nd) (u : Value), ns[j]? = some n → us[j]? = some u →
    (nvs ns us)[j * 4]? = some (.int .i64 n.1.1) ∧ (nvs ns us)[j * 4 + 1]? = some (.int .i64 n.1.2.1) ∧ (nvs ns us)[j * 4 + 2]? = some (.int .u64 n.1.2.2) ∧ (nvs ns us)[j * 4 + 3]? = some u
  | [], us, j, n, u, h, _ => by simp at h
  | n :: r, [], j, _, u, _, h => by simp at h
  | n :: r, u :: us, 0, n', u', h, k => by simp at h k; subst h; subst k; simp [nvs]
  | n :: r, u :: us, j + 1, n', u', h, k => by
    have := nvs_at r us j n' u' (by simpa using h) (by simpa using k)
    rw [show (j + 1) * 4 = j * 4 + 1 + 1 + 1 + 1 from by omega]
    simpa [nvs] using this
theorem nvs_app : ∀ (ns ms : List Nd) (us xs : List Value), us.length = ns.length → nvs (ns ++ ms) (us ++ xs) = nvs ns us ++ nvs ms xs
  | [], ms, [], xs, _ => rfl
  | n :: r, ms, u :: us, xs, h => by simp [nvs, nvs_app r ms us xs (by simpa using h)]
/-- A slice of nodes. -/
def NsW (w : World) (v : Value) (us : List Value) (ns : List Nd) : Prop := ∃ A c, v = .slice A ns.length c ∧ ns.length ≤ c ∧ c ≤ maxLen ∧ (A = none → c = 0) ∧ RV w A (nvs ns us) ∧ Gd .u64 w us (ns.map (·.2))
def Ns (w : World) (v : Value) (ns : List Nd) : Prop := ∃ us, NsW w v us ns
/-- The cells of a node, as the walk spells them. -/
def NdAt (w : World) (q : Addr) (n : Nd) (u : Value) : Prop := w.cell? q = some (.int .i64 n.1.1) ∧ w.cell? ⟨q.block, q.off + 1, none⟩ = some (.int .i64 n.1.2.1) ∧ w.cell? ⟨q.block, q.off + 2, none⟩ = some (.int .u64 n.1.2.2) ∧ w.cell? ⟨q.block, q.off + 3, none⟩ = some u
theorem nxt_add1 (p : Addr) (j : Nat) : (⟨(p.add j).block, (p.add j).off + 1, none⟩ : Addr) = p.add (j + 1) := by rw [← add_add]; rfl
theorem nxt_add2 (p : Addr) (j : Nat) : (⟨(p.add j).block, (p.add j).off + 2, none⟩ : Addr) = p.add (j + 2) := by rw [← add_add]; rfl
theorem nxt_add3 (p : Addr) (j : Nat) : (⟨(p.add j).block, (p.add j).off + 3, none⟩ : Addr) = p.add (j + 3) := by rw [← add_add]; rfl
section
variable {w w' : World} {v : Value} {us : List Value} {ns : List Nd}
theorem NsW.up (h : NsW w v us ns) (u : Up w w') : NsW w' v us ns := by
  obtain ⟨A, c, e, h1, h2, h3, h4, h5⟩ := h
  exact ⟨A, c, e, h1, h2, h3, h4.up u, h5.up u⟩
theorem Ns.up (h : Ns w v ns) (u : Up w w') : Ns w' v ns := by
  obtain ⟨us, h⟩ := h
  exact ⟨us, h.up u⟩
theorem NsW.at_ {A : Option Addr} {n c x : Nat} (h : NsW w (.slice A n c) us ns) (hx : x < n) : ∃ p u, A = some p ∧ us[x]? = some u ∧ NdAt w (p.add (x * 4)) (ns.getD x ((0, 0, 0), [])) u ∧ Sl .u64 w u (ns.getD x ((0, 0, 0), [])).2 := by
  obtain ⟨A', c', e, h1, h2, h3, h4, h5⟩ := h
  cases e
  have hl : us.length = ns.length := by rw [h5.1, List.length_map]
  have hu : x < us.length := by omega
  have e := nvs_at ns us x ns[x] us[x] (List.getElem?_eq_getElem hx) (List.getElem?_eq_getElem hu)
  have hlen := nvs_len ns us hl
  obtain ⟨p, e2, hp, hc⟩ := h4 (fun q => by rw [q] at hlen; simp at hlen; omega)
  have hn : ns.getD x ((0, 0, 0), []) = ns[x] := by simp [List.getD, List.getElem?_eq_getElem hx]
  rw [hn]
  refine ⟨p, us[x], e2, List.getElem?_eq_getElem hu, ⟨hc _ _ e.1, ?_, ?_, ?_⟩, h5.2 x _ _ (List.getElem?_eq_getElem hu) (by simp [List.getElem?_eq_getElem hx])⟩
  · rw [nxt_add1]; exact hc _ _ e.2.1
  · rw [nxt_add2]; exact hc _ _ e.2.2.1
  · rw [nxt_add3]; exact hc _ _ e.2.2.2
theorem Ns.at_ {A : Option Addr} {n c x : Nat} (h : Ns w (.slice A n c) ns) (hx : x < n) : ∃ p u, A = some p ∧ NdAt w (p.add (x * 4)) (ns.getD x ((0, 0, 0), [])) u ∧ Sl .u64 w u (ns.getD x ((0, 0, 0), [])).2 := by
  obtain ⟨us, h⟩ := h
  obtain ⟨p, u, e, _, hc, hs⟩ := h.at_ hx
  exact ⟨p, u, e, hc, hs⟩
theorem Ns.slice (h : Ns w v ns) : ∃ A c, v = .slice A ns.length c ∧ ns.length ≤ maxLen := by
  obtain ⟨us, A, c, e, h1, h2, _⟩ := h
  exact ⟨_, _, e, by omega⟩
theorem Ns.len {A : Option Addr} {n c : Nat} (h : Ns w (.slice A n c) ns) : ns.length = n := by
  obtain ⟨us, A', c', e, _⟩ := h
  cases e
  rfl
theorem Ns.nil (w : World) : Ns w (.slice none 0 0) [] := ⟨[], none, 0, rfl, Nat.le_refl _, Nat.zero_le _, fun _ => rfl, RV.nil _ _, rfl, fun j u xs h => by simp at h⟩
end
/-- A graph, as a value. -/
def GrV (w : World) (v : Value) (g : Gr) : Prop := ∃ a b, v = .agg #[a, b] ∧ Ns w a g.1 ∧ Rw .i64 w b g.2
theorem GrV.up {w w' : World} {v : Value} {g : Gr} (h : GrV w v g) (u : Up w w') : GrV w' v g := by
  obtain ⟨a, b, e, h1, h2⟩ := h
  exact ⟨a, b, e, h1.up u, h2.up u⟩
end Go.Proofs.Ytlocllcijncllaa
