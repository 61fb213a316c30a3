/- Rows of numbers of either kind, graphs: contracts. -/
import Derived.Test.YtanhhkdoejnpiaaKa
import Derived.ArgAppend
import Derived.Lib.SliceRun
import Derived.Lib.AppendZerosOnto
/-! Of stage 15 -/
namespace Go.Proofs.Ytanhhkdoejnpiaa.G
open Go.Joins Go.ChangeShapes Go.WideShapes Go.ChangeAt Go.RowKit Go.Deep Go.Shelf Go.Maps
set_option linter.unusedVariables false
set_option linter.unusedSimpArgs false

/-- A node: its head, its fields. -/
abbrev Nd := (Int × Int × Int) × List Int
/-- A graph: its nodes, the threads' handles. -/
abbrev Gr := List Nd × List (List Int)

/-- Values stand in a row at an address. -/
def RV (w : World) (A : Option Addr) (vs : List Value) : Prop := vs ≠ [] → ∃ p, A = some p ∧ p.block < w.heap.size ∧ ∀ j v, vs[j]? = some v → w.cell? (p.add j) = some v
theorem RV.up {w w' : World} {A : Option Addr} {vs : List Value} (h : RV w A vs) (k : Up w w') : RV w' A vs := fun q => by
  obtain ⟨p, e, hp, hc⟩ := h q
  exact ⟨p, e, Nat.lt_of_lt_of_le hp k.size, fun j v hj => (Below.cell k (by rw [block_of_add]; exact hp)).trans (hc j v hj)⟩
theorem RV.nil (w : World) (A : Option Addr) : RV w A [] := fun q => absurd rfl q
theorem RV.at_ {w : World} {A : Option Addr} {vs : List Value} (h : RV w A vs) {j : Nat} (hj : j < vs.length) : ∃ p, A = some p ∧ w.cell? (p.add j) = some vs[j] := by
  obtain ⟨p, e, hp, hc⟩ := h (fun q => by rw [q] at hj; cases hj)
  exact ⟨p, e, hc j _ (List.getElem?_eq_getElem hj)⟩
theorem rv_of_blk {w : World} {g : Nat} {t : TypeId} {cs : Array Value} {vs : List Value} (h : Blk w g t cs) (hv : ∀ (j : Nat) (v : Value), vs[j]? = some v → cs[j]? = some v) : RV w (some ⟨g, 0, none⟩) vs :=
  fun _ => ⟨_, rfl, h.lt, fun j v hj => by rw [add_zero', h.cell j]; exact hv j v hj⟩
theorem rv_of_own {w : World} {n₀ : Nat} {e : TypeId} {size n : Nat} {A : Option Addr} {k c : Nat} {vs : List Value} (h : w.ownsRow n₀ e size (.slice A k c) n vs) (hl : vs.length = n * size) : k = n ∧ n ≤ c ∧ c ≤ maxLen ∧ (A = none → c = 0) ∧ RV w A vs := by
  rcases h.2 with ⟨e1, h0⟩ | ⟨g, cap, cur, e1, hb, hg, h1, h2, h3, h4⟩
  · cases e1
    subst h0
    refine ⟨rfl, Nat.zero_le _, Nat.zero_le _, fun _ => rfl, fun q => absurd (List.eq_nil_of_length_eq_zero (by omega)) q⟩
  · cases e1
    refine ⟨rfl, h1, h2, fun q => (by cases q), rv_of_blk hg fun j v hj => ?_⟩
    have hlt : j < vs.length := by
      rcases Nat.lt_or_ge j vs.length with q | q
      · exact q
      · rw [List.getElem?_eq_none q] at hj; cases hj
    rw [← h4, List.getElem?_take, if_pos (by omega)] at hj
    simpa using hj
theorem own_slice {w : World} {n₀ : Nat} {e : TypeId} {size n : Nat} {v : Value} {vs : List Value} (h : w.ownsRow n₀ e size v n vs) : ∃ A c, v = .slice A n c := by
  rcases h.2 with ⟨e1, h0⟩ | ⟨g, cap, cur, e1, _⟩
  · exact ⟨none, 0, by rw [e1, h0]⟩
  · exact ⟨_, _, e1⟩

/-- A slice of numbers. -/
def Sl (k : IntKind) (w : World) (v : Value) (xs : List Int) : Prop := ∃ A c, v = .slice A xs.length c ∧ xs.length ≤ c ∧ c ≤ maxLen ∧ (A = none → c = 0) ∧ RV w A (xs.map (Value.int k))
section
variable {k : IntKind} {w w' : World} {v : Value} {xs : List Int}
theorem Sl.up (h : Sl k w v xs) (u : Up w w') : Sl k w' v xs := by
  obtain ⟨A, c, e, h1, h2, h3, h4⟩ := h
  exact ⟨A, c, e, h1, h2, h3, h4.up u⟩
theorem Sl.nil (k : IntKind) (w : World) : Sl k w (.slice none 0 0) [] := ⟨none, 0, rfl, Nat.le_refl _, Nat.zero_le _, fun _ => rfl, RV.nil _ _⟩
theorem Sl.slice (h : Sl k w v xs) : ∃ A c, v = .slice A xs.length c := by
  obtain ⟨A, c, e, _⟩ := h
  exact ⟨_, _, e⟩
theorem Sl.rv {A : Option Addr} {n c : Nat} (h : Sl k w (.slice A n c) xs) : xs.length = n ∧ RV w A (xs.map (Value.int k)) ∧ n ≤ c ∧ c ≤ maxLen ∧ (A = none → c = 0) := by
  obtain ⟨A', c', e, h1, h2, h3, h4⟩ := h
  cases e
  exact ⟨rfl, h4, h1, h2, h3⟩
theorem Sl.len {A : Option Addr} {n c : Nat} (h : Sl k w (.slice A n c) xs) : xs.length = n := h.rv.1
theorem Sl.at_ {A : Option Addr} {n c x : Nat} (h : Sl k w (.slice A n c) xs) (hx : x < n) : ∃ p, A = some p ∧ w.cell? (p.add x) = some (.int k (xs.getD x 0)) := by
  obtain ⟨e, h4, _⟩ := h.rv
  have hx' : x < (xs.map (Value.int k)).length := by rw [List.length_map]; omega
  obtain ⟨p, e2, hc⟩ := h4.at_ hx'
  refine ⟨p, e2, ?_⟩
  rw [hc]
  have : x < xs.length := by omega
  simp [List.getD, List.getElem?_eq_getElem this]
theorem Sl.max (h : Sl k w v xs) : xs.length ≤ maxLen := by
  obtain ⟨A, c, e, h1, h2, _⟩ := h
  omega
end

/-- Values are slices of the rows. -/
def Gd (k : IntKind) (w : World) (us : List Value) (L : List (List Int)) : Prop := us.length = L.length ∧ ∀ (j : Nat) (u : Value) (xs : List Int), us[j]? = some u → L[j]? = some xs → Sl k w u xs
theorem Gd.up {k : IntKind} {w w' : World} {us : List Value} {L : List (List Int)} (h : Gd k w us L) (u : Up w w') : Gd k w' us L := ⟨h.1, fun j a xs h1 h2 => (h.2 j a xs h1 h2).up u⟩
theorem Gd.at_ {k : IntKind} {w : World} {us : List Value} {L : List (List Int)} (h : Gd k w us L) {j : Nat} (hj : j < L.length) : ∃ u, us[j]? = some u ∧ Sl k w u (L.getD j []) := by
  have h1 : j < us.length := by rw [h.1]; exact hj
  exact ⟨us[j], List.getElem?_eq_getElem h1, by
    have := h.2 j us[j] L[j] (List.getElem?_eq_getElem h1) (List.getElem?_eq_getElem hj)
    simpa [List.getD, List.getElem?_eq_getElem hj] using this⟩
/-- A slice of rows. -/
def RwW (k : IntKind) (w : World) (v : Value) (us : List Value) (L : List (List Int)) : Prop := ∃ A c, v = .slice A L.length c ∧ L.length ≤ c ∧ c ≤ maxLen ∧ (A = none → c = 0) ∧ RV w A us ∧ Gd k w us L
def Rw (k : IntKind) (w : World) (v : Value) (L : List (List Int)) : Prop := ∃ us, RwW k w v us L
section
variable {k : IntKind} {w w' : World} {v : Value} {us : List Value} {L : List (List Int)}
theorem RwW.up (h : RwW k w v us L) (u : Up w w') : RwW k w' v us L := by
  obtain ⟨A, c, e, h1, h2, h3, h4, h5⟩ := h
  exact ⟨A, c, e, h1, h2, h3, h4.up u, h5.up u⟩
theorem Rw.up (h : Rw k w v L) (u : Up w w') : Rw k w' v L := by
  obtain ⟨us, h⟩ := h
  exact ⟨us, h.up u⟩
theorem Rw.nil (k : IntKind) (w : World) : Rw k w (.slice none 0 0) [] := ⟨[], none, 0, rfl, Nat.le_refl _, Nat.zero_le _, fun _ => rfl, RV.nil _ _, rfl, fun j u xs h => by simp at h⟩
theorem RwW.at_ {A : Option Addr} {n c x : Nat} (h : RwW k w (.slice A n c) us L) (hx : x < n) : ∃ p u, A = some p ∧ us[x]? = some u ∧ w.cell? (p.add x) = some u ∧ Sl k w u (L.getD x []) := by
  obtain ⟨A', c', e, h1, h2, h3, h4, h5⟩ := h
  cases e
  obtain ⟨u, hu, hs⟩ := h5.at_ hx
  have hl : x < us.length := by rw [h5.1]; exact hx
  obtain ⟨p, e2, hc⟩ := h4.at_ hl
  rw [List.getElem?_eq_getElem hl] at hu
  cases hu
  exact ⟨p, _, e2, List.getElem?_eq_getElem hl, hc, hs⟩
theorem Rw.at_ {A : Option Addr} {n c x : Nat} (h : Rw k w (.slice A n c) L) (hx : x < n) : ∃ p u, A = some p ∧ w.cell? (p.add x) = some u ∧ Sl k w u (L.getD x []) := by
  obtain ⟨us, h⟩ := h
  obtain ⟨p, u, e, _, hc, hs⟩ := h.at_ hx
  exact ⟨p, u, e, hc, hs⟩
theorem Rw.slice (h : Rw k w v L) : ∃ A c, v = .slice A L.length c ∧ L.length ≤ maxLen := by
  obtain ⟨us, A, c, e, h1, h2, _⟩ := h
  exact ⟨_, _, e, by omega⟩
theorem Rw.len {A : Option Addr} {n c : Nat} (h : Rw k w (.slice A n c) L) : L.length = n := by
  obtain ⟨us, A', c', e, _⟩ := h
  cases e
  rfl
end

/-- A node's cells. -/
def nvs : List Nd → List Value → List Value
  | n :: r, u :: us => .int .i64 n.1.1 :: .int .i64 n.1.2.1 :: .int .u64 n.1.2.2 :: u :: nvs r us
  | _, _ => []
theorem nvs_len : ∀ (ns : List Nd) (us : List Value), us.length = ns.length → (nvs ns us).length = ns.length * 4
  | [], _, _ => rfl
  | n :: r, [], h => by cases h
  | n :: r, u :: us, h => by simp only [nvs, List.length_cons, nvs_len r us (by simpa using h)]; omega
theorem nvs_at : ∀ (ns : List Nd) (us : List Value) (j : Nat) (n : Nd) (u : Value), ns[j]? = some n → us[j]? = some u →
    (nvs ns us)[j * 4]? = some (.int .i64 n.1.1) ∧ (nvs ns us)[j * 4 + 1]? = some (.int .i64 n.1.2.1) ∧ (nvs ns us)[j * 4 + 2]? = some (.int .u64 n.1.2.2) ∧ (nvs ns us)[j * 4 + 3]? = some u
  | [], us, j, n, u, h, _ => by simp at h
  | n :: r, [], j, _, u, _, h => by simp at h
  | n :: r, u :: us, 0, n', u', h, k => by simp at h k; subst h; subst k; simp [nvs]
  | n :: r, u :: us, j + 1, n', u', h, k => by
    have := nvs_at r us j n' u' (by simpa using h) (by simpa using k)
    rw [show (j + 1) * 4 = j * 4 + 1 + 1 + 1 + 1 from by omega]
    simpa [nvs] using this
/-- A slice of nodes. -/
def NsW (w : World) (v : Value) (us : List Value) (ns : List Nd) : Prop := ∃ A c, v = .slice A ns.length c ∧ ns.length ≤ c ∧ c ≤ maxLen ∧ (A = none → c = 0) ∧ RV w A (nvs ns us) ∧ Gd .u64 w us (ns.map (·.2))
def Ns (w : World) (v : Value) (ns : List Nd) : Prop := ∃ us, NsW w v us ns
/-- The cells of a node, as the walk spells them. -/
def NdAt (w : World) (q : Addr) (n : Nd) (u : Value) : Prop := w.cell? q = some (.int .i64 n.1.1) ∧ w.cell? ⟨q.block, q.off + 1, none⟩ = some (.int .i64 n.1.2.1) ∧ w.cell? ⟨q.block, q.off + 2, none⟩ = some (.int .u64 n.1.2.2) ∧ w.cell? ⟨q.block, q.off + 3, none⟩ = some u
theorem nxt_add1 (p : Addr) (j : Nat) : (⟨(p.add j).block, (p.add j).off + 1, none⟩ : Addr) = p.add (j + 1) := by rw [← add_add]; rfl
theorem nxt_add2 (p : Addr) (j : Nat) : (⟨(p.add j).block, (p.add j).off + 2, none⟩ : Addr) = p.add (j + 2) := by rw [← add_add]; rfl
theorem nxt_add3 (p : Addr) (j : Nat) : (⟨(p.add j).block, (p.add j).off + 3, none⟩ : Addr) = p.add (j + 3) := by rw [← add_add]; rfl
section
variable {w w' : World} {v : Value} {us : List Value} {ns : List Nd}
theorem NsW.up (h : NsW w v us ns) (u : Up w w') : NsW w' v us ns := by
  obtain ⟨A, c, e, h1, h2, h3, h4, h5⟩ := h
  exact ⟨A, c, e, h1, h2, h3, h4.up u, h5.up u⟩
theorem Ns.up (h : Ns w v ns) (u : Up w w') : Ns w' v ns := by
  obtain ⟨us, h⟩ := h
  exact ⟨us, h.up u⟩
theorem NsW.at_ {A : Option Addr} {n c x : Nat} (h : NsW w (.slice A n c) us ns) (hx : x < n) : ∃ p u, A = some p ∧ us[x]? = some u ∧ NdAt w (p.add (x * 4)) (ns.getD x ((0, 0, 0), [])) u ∧ Sl .u64 w u (ns.getD x ((0, 0, 0), [])).2 := by
  obtain ⟨A', c', e, h1, h2, h3, h4, h5⟩ := h
  cases e
  have hl : us.length = ns.length := by rw [h5.1, List.length_map]
  have hu : x < us.length := by omega
  have e := nvs_at ns us x ns[x] us[x] (List.getElem?_eq_getElem hx) (List.getElem?_eq_getElem hu)
  have hlen := nvs_len ns us hl
  obtain ⟨p, e2, hp, hc⟩ := h4 (fun q => by rw [q] at hlen; simp at hlen; omega)
  have hn : ns.getD x ((0, 0, 0), []) = ns[x] := by simp [List.getD, List.getElem?_eq_getElem hx]
  rw [hn]
  refine ⟨p, us[x], e2, List.getElem?_eq_getElem hu, ⟨hc _ _ e.1, ?_, ?_, ?_⟩, h5.2 x _ _ (List.getElem?_eq_getElem hu) (by simp [List.getElem?_eq_getElem hx])⟩
  · rw [nxt_add1]; exact hc _ _ e.2.1
  · rw [nxt_add2]; exact hc _ _ e.2.2.1
  · rw [nxt_add3]; exact hc _ _ e.2.2.2
theorem Ns.at_ {A : Option Addr} {n c x : Nat} (h : Ns w (.slice A n c) ns) (hx : x < n) : ∃ p u, A = some p ∧ NdAt w (p.add (x * 4)) (ns.getD x ((0, 0, 0), [])) u ∧ Sl .u64 w u (ns.getD x ((0, 0, 0), [])).2 := by
  obtain ⟨us, h⟩ := h
  obtain ⟨p, u, e, _, hc, hs⟩ := h.at_ hx
  exact ⟨p, u, e, hc, hs⟩
theorem Ns.slice (h : Ns w v ns) : ∃ A c, v = .slice A ns.length c ∧ ns.length ≤ maxLen := by
  obtain ⟨us, A, c, e, h1, h2, _⟩ := h
  exact ⟨_, _, e, by omega⟩
theorem Ns.len {A : Option Addr} {n c : Nat} (h : Ns w (.slice A n c) ns) : ns.length = n := by
  obtain ⟨us, A', c', e, _⟩ := h
  cases e
  rfl
theorem Ns.nil (w : World) : Ns w (.slice none 0 0) [] := ⟨[], none, 0, rfl, Nat.le_refl _, Nat.zero_le _, fun _ => rfl, RV.nil _ _, rfl, fun j u xs h => by simp at h⟩
end
/-- A graph, as a value. -/
def GrV (w : World) (v : Value) (g : Gr) : Prop := ∃ a b, v = .agg #[a, b] ∧ Ns w a g.1 ∧ Rw .i64 w b g.2
theorem GrV.up {w w' : World} {v : Value} {g : Gr} (h : GrV w v g) (u : Up w w') : GrV w' v g := by
  obtain ⟨a, b, e, h1, h2⟩ := h
  exact ⟨a, b, e, h1.up u, h2.up u⟩

end Go.Proofs.Ytanhhkdoejnpiaa.G
/-! Of stage 15 -/
namespace Go.Proofs.Ytanhhkdoejnpiaa.G
open Go.Joins Go.ChangeShapes Go.WideShapes Go.ChangeAt Go.RowKit Go.Deep Go.Shelf Go.Maps
set_option linter.unusedVariables false
set_option linter.unusedSimpArgs false

/-- An element's type, and the slice's. -/
structure El (T e : TypeId) (size bytes : Nat) : Prop where
  ex : ∃ i0 z, Try.prog.info? e = some i0 ∧ i0.zero = some z ∧ i0.size = size ∧ i0.bytes = bytes ∧ z.cells.size = size
  und : Try.prog.underlying T = some (.slice e)
  pos : 0 < size
  small : bytes ≤ 48
theorem el_u64 : El 22 48 1 8 := ⟨by
  obtain ⟨i0, h1, h2, h3, h4⟩ := info_parts (P := Try.prog) (e := 48) (z := .int .u64 0) (size := 1) (bytes := 8) (by kernel_rfl)
  exact ⟨i0, _, h1, h2, h3, h4, rfl⟩, Try.underlying22, by decide, by decide⟩
theorem el_int : El 43 3 1 8 := ⟨by
  obtain ⟨i0, h1, h2, h3, h4⟩ := info_parts (P := Try.prog) (e := 3) (z := .int .i64 0) (size := 1) (bytes := 8) (by kernel_rfl)
  exact ⟨i0, _, h1, h2, h3, h4, rfl⟩, Try.underlying43, by decide, by decide⟩
theorem el_node : El 34 52 4 48 := ⟨by
  obtain ⟨i0, h1, h2, h3, h4⟩ := info_parts (P := Try.prog) (e := 52) (z := .agg #[.int .i64 0, .int .i64 0, .int .u64 0, .slice none 0 0]) (size := 4) (bytes := 48) (by kernel_rfl)
  exact ⟨i0, _, h1, h2, h3, h4, rfl⟩, Try.underlying34, by decide, by decide⟩
theorem run_none {T e : TypeId} {size bytes : Nat} (E : El T e size bytes) (A B : Option Addr) (n cap c : Nat) (hc : n ≤ cap) (ty : TypeId) (w : World) : (Builtin.append_ #[T, T] ty #[.slice A n cap, .slice B 0 c]).run Try.prog w = .ok (.slice A n cap) w := by
  obtain ⟨⟨i0, z, hi, hz0, hz1, hz2, _⟩, hu, _, _⟩ := E
  cases A <;> cases B <;> simp [Builtin.append_, run_underlying hu, sizeOf, typeInfo, hi, Builtin.lenOf, Builtin.firstCells, loadCells, loadCellsFrom, storeCells, hc]
theorem grown_self (w : World) (r : Option Nat) : w.grownBy w r := ⟨rfl, rfl, rfl, Nat.le_refl _, fun _ _ _ => rfl⟩
/-- An append of some or of none onto a row of the call's own. -/
theorem run_any {T e : TypeId} {size bytes : Nat} (E : El T e size bytes) {w : World} (ty : TypeId) (n₀ n : Nat) (v : Value) (xs : List Value) (hx : w.ownsRow n₀ e size v n xs) (A : Option Addr) (m c : Nat) (ys : List Value) (hl : ys.length = m * size) (hy : RV w A ys) (h1 : ∀ u ∈ ys, u.oneCell' = true)
    (hb : n + m ≤ 1099511627776) (hbase : n₀ ≤ w.heap.size) :
    ∃ v' w', (Builtin.append_ #[T, T] ty #[v, .slice A m c]).run Try.prog w = .ok v' w' ∧ w'.ownsRow n₀ e size v' (n + m) (xs ++ ys) ∧ w.grownBy w' v.ownBlock ∧ (m = 0 → v' = v ∧ w' = w) := by
  by_cases hm : m = 0
  · subst hm
    obtain rfl : ys = [] := List.eq_nil_of_length_eq_zero (by omega)
    rw [List.append_nil]
    have hx0 := hx
    obtain ⟨hl, hc⟩ := hx
    rcases hc with ⟨rfl, h0⟩ | ⟨g, cap, cur, rfl, q1, q2, q3, q4⟩
    · exact ⟨_, w, run_none E none A 0 0 c (Nat.le_refl _) ty w, hx0, grown_self _ _, fun _ => ⟨rfl, rfl⟩⟩
    · exact ⟨_, w, run_none E (some ⟨g, 0, none⟩) A n cap c q3 ty w, hx0, grown_self _ _, fun _ => ⟨rfl, rfl⟩⟩
  · have hs := E.pos
    obtain ⟨p, rfl, hp, hc⟩ := hy (fun q => by rw [q] at hl; have := Nat.mul_pos (Nat.pos_of_ne_zero hm) hs; simp at hl; omega)
    have hsm := E.small
    obtain ⟨⟨i0, z, hi, hz0, hz1, hz2, hz3⟩, hu, _, _⟩ := E
    obtain ⟨g, cap, w', r1, r2, r3, _⟩ := run_append_lies (P := Try.prog) w T ty n₀ e i0 z size bytes hu hi hz0 hz1 hz2 hz3 hs v n xs hx p m c ys hl hc h1 (by omega) (by unfold maxLen; omega) (by
      have := Nat.mul_le_mul hb hsm
      omega) hbase w.heap.size rfl
    exact ⟨_, w', r1, r2, r3, fun q => absurd q hm⟩
theorem one_ints (k : IntKind) (xs : List Int) : ∀ u ∈ xs.map (Value.int k), u.oneCell' = true := fun u h => by
  obtain ⟨x, _, rfl⟩ := List.mem_map.1 h
  rfl
def Slices (us : List Value) : Prop := ∀ u ∈ us, ∃ A n c, u = .slice A n c
theorem Gd.slices {k : IntKind} {w : World} {us : List Value} {L : List (List Int)} (h : Gd k w us L) : Slices us := fun u hu => by
  obtain ⟨j, hj, rfl⟩ := List.getElem_of_mem hu
  have hjl : j < L.length := by rw [← h.1]; exact hj
  obtain ⟨A, c, e⟩ := (h.2 j _ _ (List.getElem?_eq_getElem hj) (List.getElem?_eq_getElem hjl)).slice
  exact ⟨_, _, _, e⟩
theorem up_own {W w w' : World} {e : TypeId} {size n : Nat} {v : Value} {xs : List Value} (h : Up W w) (hx : w.ownsRow W.heap.size e size v n xs) (hg : w.grownBy w' v.ownBlock) : Up W w' := h.grown hg (fun k e => (World.ownsRow.lt hx k e).1)
theorem own_up {w w' : World} {n₀ : Nat} {e : TypeId} {size n : Nat} {v : Value} {xs : List Value} (h : w.ownsRow n₀ e size v n xs) (k : Up w w') : w'.ownsRow n₀ e size v n xs :=
  World.ownsRow.kept h k.gb (by
    cases e : v.ownBlock with
    | none => exact .inl rfl
    | some g => exact .inr (by simp))
theorem own_le {w : World} {n₀ n₁ : Nat} {e : TypeId} {size n : Nat} {v : Value} {xs : List Value} (h : w.ownsRow n₀ e size v n xs) (k : n₁ ≤ n₀) : w.ownsRow n₁ e size v n xs :=
  ⟨h.1, h.2.imp id fun ⟨g, cap, cur, h1, h2, r⟩ => ⟨g, cap, cur, h1, Nat.le_trans k h2, r⟩⟩
theorem own_empty {V : World} {g n₀ : Nat} {e : TypeId} {size : Nat} (h : Blk V g e #[]) (hb : n₀ ≤ g) : V.ownsRow n₀ e size (.slice (some ⟨g, 0, none⟩) 0 0) 0 [] := ⟨by simp, .inr ⟨g, 0, #[], rfl, hb, h, Nat.le_refl _, Nat.zero_le _, by simp, by simp⟩⟩
theorem flat_take {α : Type} (L : List (List α)) {x : Nat} (h : x < L.length) : (L.take (x + 1)).flatten = (L.take x).flatten ++ L.getD x [] := by
  rw [List.take_succ_eq_append_getElem h, List.flatten_append]
  simp [List.getD, List.getElem?_eq_getElem h]
theorem flat_one {α : Type} (L : List (List α)) {x : Nat} (h : x < L.length) : (L.take (x + 1)).flatten.length = (L.take x).flatten.length + (L.getD x []).length := by rw [flat_take L h, List.length_append]
theorem flat_le {α : Type} (L : List (List α)) (x : Nat) : (L.take x).flatten.length ≤ L.flatten.length := by
  have h : L.flatten = (L.take x).flatten ++ (L.drop x).flatten := by rw [← List.flatten_append, List.take_append_drop]
  rw [h, List.length_append]
  omega

set_option maxHeartbeats 1000000 in
/-- Room for so many, of nothing. -/
theorem grow_u64 (n : Nat) (w : World) (hb : n ≤ 1099511627776) :
    Calls Try.prog 84 #[.slice none 0 0, .int .i64 n] w fun e w' => ∃ v, e = .returned v ∧ w'.ownsRow w.heap.size 48 1 v 0 [] ∧ (n = 0 → v = .slice none 0 0) ∧ Up w w' := by
  by_cases h0 : n = 0
  · subst h0
    go_enter Try.func84, Try.ntmps84
    go_wp2
    go_ret
    exact ⟨_, rfl, World.ownsRow_nil _ _ _ _, fun _ => rfl, Up.refl _⟩
  · obtain ⟨i0, z, hi, hz0, hz1, hz2⟩ := el_u64.ex
    have hz : z = .int .u64 0 := by
      have h1 := info_parts (P := Try.prog) (e := 48) (z := .int .u64 0) (size := 1) (bytes := 8) (by kernel_rfl)
      obtain ⟨i1, e1, e2, _⟩ := h1
      rw [hi] at e1
      cases e1
      rw [hz0] at e2
      cases e2
      rfl
    have hrun := fun ty => Lib.run_append_nil_zeros (P := Try.prog) w 22 3 ty 48 i0 z .i64 .i64 el_u64.und Try.underlying3 hi hz0 n (by omega) (by rw [hz1]; decide) (by omega) (by rw [hz2.1]; omega)
    have hge := grownCap_ge w n 0 48
    have hle := grownCap_le_maxLen w n 0 48 (by unfold maxLen; omega)
    subst hz
    have hown : (w.drew.alloc (.cells (Builtin.zeroCells (Value.int .u64 0).cells n ++ Builtin.zeroCells (Value.int .u64 0).cells (grownCap w n 0 48 - n)) 48)).ownsRow w.heap.size 48 1 (.slice (some ⟨w.heap.size, 0, none⟩) 0 (grownCap w n 0 48)) 0 [] := by
      refine ⟨by simp, .inr ⟨w.heap.size, _, _, rfl, Nat.le_refl _, Blk.new w.drew _ _, Nat.zero_le _, hle, ?_, by simp⟩⟩
      rw [Array.size_append, size_zeroCells, size_zeroCells]
      show n * 1 + (grownCap w n 0 48 - n) * 1 = _
      omega
    have HO := Lib.hid hown
    have HU : Hid (Up w (w.drew.alloc (.cells (Builtin.zeroCells (Value.int .u64 0).cells n ++ Builtin.zeroCells (Value.int .u64 0).cells (grownCap w n 0 48 - n)) 48))) := Lib.hid ((Up.refl w).drew.alloc _)
    clear hown hi hz0 hz1 hz2 hge hle
    have hd : decide ((n : Int) < 0) = false := decide_eq_false (by omega)
    have hd2 : decide (0 < (n : Int)) = true := decide_eq_true (by omega)
    generalize grownCap w n 0 48 = cap at *
    generalize w.drew.alloc (.cells (Builtin.zeroCells (Value.int .u64 0).cells n ++ Builtin.zeroCells (Value.int .u64 0).cells (cap - n)) 48) = w1 at *
    go_enter Try.func84, Try.ntmps84
    go_wp2_with (at_builtin; refine Lib.wpList_append_run _ rfl _ _ _ _ rfl _ _ rfl rfl _ _ (hrun _) ?_)
    go_ret
    exact ⟨_, rfl, HO.out, fun q => absurd q h0, HU.out⟩

def Sumu64 (w : World) (L : List (List Int)) (n : Nat) (s i : Value) (wr : World) : Prop := ∃ x : Nat, x ≤ n ∧ i = .int .i64 x ∧ s = .int .i64 ((L.take x).flatten.length : Nat) ∧ w = wr
def Catu64 (w : World) (L : List (List Int)) (n : Nat) (u i : Value) (wr : World) : Prop := ∃ x : Nat, x ≤ n ∧ i = .int .i64 x ∧ wr.ownsRow w.heap.size 48 1 u (L.take x).flatten.length ((L.take x).flatten.map (Value.int .u64)) ∧ (L.flatten = [] → u = .slice none 0 0) ∧ Up w wr
set_option maxRecDepth 100000 in
set_option maxHeartbeats 4000000 in
theorem concat_u64 (v : Value) (L : List (List Int)) (w : World) (hL : Rw .u64 w v L) (hT : L.flatten.length ≤ 1099511627776) :
    Calls Try.prog 50 #[v] w fun e w' => ∃ u, e = .returned u ∧ w'.ownsRow w.heap.size 48 1 u L.flatten.length (L.flatten.map (Value.int .u64)) ∧ (L.flatten = [] → u = .slice none 0 0) ∧ Up w w' := by
  have HL := Lib.hid hL
  obtain ⟨A, c, rfl, hm⟩ := hL.slice
  unfold maxLen at hm
  generalize hn : L.length = n at *
  have HN := Lib.hid hn
  clear hL hn
  have HT := Lib.hid hT
  clear hT
  go_enter Try.func50, Try.ntmps50
  go_wp2
  go_loopw [3, 11] (fun s i wr => Sumu64 w L n s i wr) (fun _ i _ => n - (intOf i).toNat)
  case atStart => exact ⟨0, Nat.zero_le _, rfl, rfl, rfl⟩
  case round =>
    obtain ⟨x, hx, rfl, rfl, rfl⟩ := hrel
    by_cases hlt : x < n
    · obtain ⟨p, u, rfl, hcu, hsu⟩ := HL.out.at_ hlt
      have hlx : x < L.length := by rw [HN.out]; exact hlt
      obtain ⟨Au, cu, rfl, -⟩ := hsu
      have e1 := flat_one L hlx
      have e2 := flat_le L (x + 1)
      have e3 := HT.out
      have HE := Lib.hid e1
      have hb : (L.take x).flatten.length + (L.getD x []).length ≤ 1099511627776 := by omega
      clear e1 e2 e3
      generalize (L.take x).flatten.length = s at *
      generalize (L.getD x []).length = m at *
      have hd : decide ((s : Int) + (m : Int) < 0) = false := decide_eq_false (by omega)
      go_wp2
      refine ⟨⟨x + 1, by omega, by go_num, ?_, rfl⟩, by simp [intOf]; omega⟩
      rw [HE.out]
      go_num
    · obtain rfl : n = x := by omega
      have he : L.take n = L := List.take_of_length_le (by rw [HN.out]; exact Nat.le_refl _)
      rw [he]
      clear he
      have hT := HT.out
      have hg := Lib.hid (grow_u64 L.flatten.length w hT)
      generalize hs : L.flatten.length = s at hg ⊢
      have HS := Lib.hid hs
      clear hs hT
      go_wp2_with (fail)
      refine hg.out.mono ?_
      rintro e w1 ⟨v1, rfl, ho, hz, hU⟩
      have HO := Lib.hid ho
      have HZ := Lib.hid hz
      have HU := Lib.hid hU
      clear ho hz hU hg
      go_wp2
      go_loopw [6, 27] (fun u i wr => Catu64 w L n u i wr) (fun _ i _ => n - (intOf i).toNat)
      case atStart => exact ⟨0, Nat.zero_le _, rfl, HO.out, fun q => HZ.out (by rw [← HS.out, q]; rfl), HU.out⟩
      case round =>
        obtain ⟨x, hx, rfl, ho, hz, hU⟩ := hrel
        by_cases hlt : x < n
        · obtain ⟨p, u, rfl, hcu, hsu⟩ := (HL.out.up hU).at_ hlt
          have hlx : x < L.length := by rw [HN.out]; exact hlt
          obtain ⟨Au, cu, e, h1, h2, h3, h4⟩ := hsu
          subst e
          obtain ⟨v', w', hrun, hown, hgr, hsame⟩ := run_any el_u64 (w := wr) 22 w.heap.size _ _ _ ho Au (L.getD x []).length cu _ (by simp) h4 (one_ints _ _) (by
            have e1 := flat_one L hlx
            have e2 := flat_le L (x + 1)
            have e3 := HT.out
            have e4 := HS.out
            omega) hU.size
          have hU' : Up w w' := up_own hU ho hgr
          have hown' : w'.ownsRow w.heap.size 48 1 v' (L.take (x + 1)).flatten.length ((L.take (x + 1)).flatten.map (Value.int .u64)) := by
            rw [flat_one L hlx, flat_take L hlx, List.map_append]
            exact hown
          have hz' : L.flatten = [] → v' = .slice none 0 0 := fun q => by
            have e1 := flat_one L hlx
            have e2 := flat_le L (x + 1)
            rw [q] at e2
            have e3 : ([] : List Int).length = 0 := rfl
            have hm0 : (L.getD x []).length = 0 := by omega
            rw [(hsame hm0).1, hz q]
          have HO := Lib.hid hown'
          have HZ := Lib.hid hz'
          have HU := Lib.hid hU'
          clear hown hown' hz hz' hU hU' ho hgr hsame h4 h3
          obtain ⟨Ao, co, rfl⟩ := own_slice (Lib.hid HO.out).out
          generalize (L.getD x []).length = m at *
          generalize hsl : (L.take (x + 1)).flatten.length = sl at *
          have HSL := Lib.hid hsl
          clear hsl
          go_wp2_with (at_builtin; refine Lib.wpList_append_run _ rfl _ _ _ _ rfl _ _ rfl rfl _ _ hrun ?_)
          exact ⟨⟨x + 1, by omega, by go_num, by rw [HSL.out]; exact HO.out, HZ.out, HU.out⟩, by simp [intOf]; omega⟩
        · obtain rfl : n = x := by omega
          have he : L.take n = L := List.take_of_length_le (by rw [HN.out]; exact Nat.le_refl _)
          rw [he] at ho
          have HO := Lib.hid ho
          have HZ := Lib.hid hz
          have HU := Lib.hid hU
          clear ho hz hU he
          go_wp2
          go_ret
          rw [← HS.out]
          exact ⟨_, rfl, HO.out, HZ.out, HU.out⟩


end Go.Proofs.Ytanhhkdoejnpiaa.G
/-! Of stage 15 -/
namespace Go.Proofs.Ytanhhkdoejnpiaa.G
open Go.Joins Go.ChangeShapes Go.WideShapes Go.ChangeAt Go.RowKit Go.Deep Go.Shelf Go.Maps
set_option linter.unusedVariables false
set_option linter.unusedSimpArgs false

/-- Where a row begins. -/
def off (L : List (List Int)) (j : Nat) : Nat := (L.take j).flatten.length
theorem flat_at {L : List (List Int)} {j i : Nat} {xs : List Int} {x : Int} (h : L[j]? = some xs) (k : xs[i]? = some x) : L.flatten[off L j + i]? = some x := by
  have hj : j < L.length := by
    rcases Nat.lt_or_ge j L.length with q | q
    · exact q
    · rw [List.getElem?_eq_none q] at h; cases h
  have hi : i < xs.length := by
    rcases Nat.lt_or_ge i xs.length with q | q
    · exact q
    · rw [List.getElem?_eq_none q] at k; cases k
  have e : L.flatten = (L.take j).flatten ++ (xs ++ (L.drop (j + 1)).flatten) := by
    have e2 : L.drop j = xs :: L.drop (j + 1) := by
      rw [List.drop_eq_getElem_cons hj]
      rw [List.getElem?_eq_getElem hj] at h
      cases h
      rfl
    rw [← List.flatten_cons, ← e2, ← List.flatten_append, List.take_append_drop]
  rw [e, List.getElem?_append_right (by unfold off; omega)]
  have : off L j + i - (L.take j).flatten.length = i := by unfold off; omega
  rw [this, List.getElem?_append_left hi, k]
/-- Rows that stand in one block, each behind the one ahead of it. -/
structure Ct (k : IntKind) (e : TypeId) (base : Nat) (w : World) (us : List Value) (L : List (List Int)) (B : Nat) : Prop where
  len : us.length = L.length
  row : ∀ (j : Nat) (u : Value) (xs : List Int), us[j]? = some u → L[j]? = some xs → ∃ A, u = .slice A xs.length xs.length ∧ (A = none → xs.length = 0) ∧ (xs ≠ [] → A = some ⟨B, off L j, none⟩)
  blk : L.flatten ≠ [] → base ≤ B ∧ ∃ cs, Blk w B e cs ∧ ∀ (i : Nat) (x : Int), L.flatten[i]? = some x → cs[i]? = some (.int k x)
  short : ∀ xs ∈ L, xs.length ≤ maxLen
theorem Ct.up {k : IntKind} {e : TypeId} {base : Nat} {w w' : World} {us : List Value} {L : List (List Int)} {B : Nat} (h : Ct k e base w us L B) (u : Up w w') : Ct k e base w' us L B :=
  ⟨h.len, h.row, fun q => by
    obtain ⟨h1, cs, h2, h3⟩ := h.blk q
    exact ⟨h1, cs, h2.up u, h3⟩, h.short⟩
theorem Ct.slices {k : IntKind} {e : TypeId} {base : Nat} {w : World} {us : List Value} {L : List (List Int)} {B : Nat} (h : Ct k e base w us L B) : Slices us := fun u hu => by
  obtain ⟨j, hj, rfl⟩ := List.getElem_of_mem hu
  have hjl : j < L.length := by rw [← h.len]; exact hj
  obtain ⟨A, e, _⟩ := h.row j _ _ (List.getElem?_eq_getElem hj) (List.getElem?_eq_getElem hjl)
  exact ⟨_, _, _, e⟩
theorem add_off (g a b : Nat) : (⟨g, a, none⟩ : Addr).add b = ⟨g, a + b, none⟩ := by unfold Addr.add; split <;> simp_all
theorem Ct.gd {k : IntKind} {e : TypeId} {base : Nat} {w : World} {us : List Value} {L : List (List Int)} {B : Nat} (h : Ct k e base w us L B) : Gd k w us L := by
  refine ⟨h.len, fun j u xs h1 h2 => ?_⟩
  obtain ⟨A, e1, e2, e3⟩ := h.row j u xs h1 h2
  refine ⟨A, xs.length, e1, Nat.le_refl _, h.short xs (List.mem_of_getElem? h2), e2, fun q => ?_⟩
  have hx : xs ≠ [] := fun q2 => q (by rw [q2]; rfl)
  have hf : L.flatten ≠ [] := fun q2 => by
    obtain ⟨x, r, e4⟩ := List.exists_cons_of_ne_nil hx
    have := flat_at (i := 0) (x := x) h2 (by rw [e4]; rfl)
    rw [q2] at this
    simp at this
  obtain ⟨_, cs, hb, hc⟩ := h.blk hf
  refine ⟨_, e3 hx, hb.lt, fun i v hi => ?_⟩
  rw [List.getElem?_map] at hi
  obtain ⟨x, hx1, rfl⟩ := Option.map_eq_some_iff.1 hi
  rw [add_off, hb.cell]
  exact hc _ _ (flat_at h2 hx1)
theorem made_rows (n : Nat) : madeCells #[.slice none 0 0] n = (List.replicate n (Value.slice none 0 0)).toArray := by
  apply Array.ext
  · simp [size_madeCells]
  · intro i h1 h2
    simp [madeCells, Nat.mod_one]


end Go.Proofs.Ytanhhkdoejnpiaa.G
/-! Of stage 15 -/
namespace Go.Proofs.Ytanhhkdoejnpiaa.G
open Go.Joins Go.ChangeShapes Go.WideShapes Go.ChangeAt Go.RowKit Go.Deep Go.Shelf Go.Maps
set_option linter.unusedVariables false
set_option linter.unusedSimpArgs false

/-- A graph that is all a call's own: its nodes, their fields in one block, the threads' handles, in one block too. -/
structure OwnG (base : Nat) (w : World) (vn vs : Value) (g : Gr) (us us2 : List Value) (BF GS BS : Nat) : Prop where
  nodes : w.ownsRow base 52 4 vn g.1.length (nvs g.1 us)
  flds : Ct .u64 48 base w us (g.1.map (·.2)) BF
  val : vs = .slice (some ⟨GS, 0, none⟩) g.2.length g.2.length
  grid : Blk w GS 43 us2.toArray
  rows : Ct .i64 3 base w us2 g.2 BS
  ge : base ≤ GS
  few : g.2.length ≤ maxLen
theorem OwnG.up {base : Nat} {w w' : World} {vn vs : Value} {g : Gr} {us us2 : List Value} {BF GS BS : Nat} (h : OwnG base w vn vs g us us2 BF GS BS) (u : Up w w') : OwnG base w' vn vs g us us2 BF GS BS :=
  ⟨own_up h.nodes u, h.flds.up u, h.val, h.grid.up u, h.rows.up u, h.ge, h.few⟩
theorem ns_of_own {base : Nat} {w : World} {v : Value} {ns : List Nd} {us : List Value} (h : w.ownsRow base 52 4 v ns.length (nvs ns us)) (hg : Gd .u64 w us (ns.map (·.2))) : NsW w v us ns := by
  obtain ⟨A, c, rfl⟩ := own_slice h
  obtain ⟨_, h2, h3, h4, h5⟩ := rv_of_own h (nvs_len ns us (by rw [hg.1, List.length_map]))
  exact ⟨A, c, rfl, h2, h3, h4, h5, hg⟩
theorem OwnG.ns {base : Nat} {w : World} {vn vs : Value} {g : Gr} {us us2 : List Value} {BF GS BS : Nat} (h : OwnG base w vn vs g us us2 BF GS BS) : NsW w vn us g.1 := ns_of_own h.nodes h.flds.gd
theorem OwnG.rw_ {base : Nat} {w : World} {vn vs : Value} {g : Gr} {us us2 : List Value} {BF GS BS : Nat} (h : OwnG base w vn vs g us us2 BF GS BS) : RwW .i64 w vs us2 g.2 :=
  ⟨_, _, h.val, Nat.le_refl _, h.few, fun q => (by cases q), rv_of_blk h.grid (fun j v hj => by simpa using hj), h.rows.gd⟩
theorem grownBy_setAt (w : World) (G i : Nat) (u : Value) : w.grownBy (w.setCell ⟨G, i, none⟩ u) (some G) :=
  ⟨rfl, rfl, rfl, by simp, fun k _ hk => heap_setCell_other w ⟨G, i, none⟩ k u (fun e => hk (by simp [e]))⟩
theorem own_far {w : World} {n₀ : Nat} {e t : TypeId} {size n b : Nat} {v : Value} {xs : List Value} {cs : Array Value} (h : w.ownsRow n₀ e size v n xs) (hb : Blk w b t cs) (hne : e ≠ t) (i : Nat) (u : Value) : (w.setCell ⟨b, i, none⟩ u).ownsRow n₀ e size v n xs :=
  World.ownsRow.kept h (grownBy_setAt _ b _ _) (.inr (own_row_ne h hb hne).symm)
/-- How much there is at most. -/
structure FitG (g : Gr) : Prop where
  n : g.1.length ≤ 1048576
  f : (g.1.map (·.2)).flatten.length ≤ 1099511627776
  s : g.2.length ≤ 1099511627776
  h : g.2.flatten.length ≤ 1099511627776
theorem take_same {α : Type} {xs ys : List α} {n : Nat} (h1 : xs.length = n) (h2 : ys.length = n) (h : ∀ j, j < n → xs[j]? = ys[j]?) : xs = ys := by
  apply List.ext_getElem?
  intro j
  rcases Nat.lt_or_ge j n with q | q
  · exact h j q
  · rw [List.getElem?_eq_none (by omega), List.getElem?_eq_none (by omega)]

end Go.Proofs.Ytanhhkdoejnpiaa.G
