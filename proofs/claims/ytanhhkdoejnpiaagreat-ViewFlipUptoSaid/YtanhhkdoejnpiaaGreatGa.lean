/- Rows of numbers of either kind, graphs: contracts. -/
import Derived.Test.YtanhhkdoejnpiaaGreatKa
import Derived.ArgAppend
import Derived.Lib.SliceRun
import Derived.Lib.AppendZerosOnto
/-! Of stage 15 -/
namespace Go.Proofs.YtanhhkdoejnpiaaGreat.G
open Go.Joins Go.ChangeShapes Go.WideShapes Go.ChangeAt Go.RowKit Go.Deep Go.Shelf Go.Maps
set_option linter.unusedVariables false
set_option linter.unusedSimpArgs false

/-- A node: its head, its fields. -/
abbrev Nd := (Int × Int × Int) × List Int
/-- A graph: its nodes, the threads' handles. -/
abbrev Gr := List Nd × List (List Int)

/-- Values stand in a row at an address. -/
def RV (w : World) (A : Option Addr) (vs : List Value) : Prop := vs ≠ [] → ∃ p, A = some p ∧ p.block < w.heap.size ∧ ∀ j v, vs[j]? = some v → w.cell? (p.add j) = some v
theorem RV.up {w w' : World} {A : Option Addr} {vs : List Value} (h : RV w A vs) (k : Up w w') : RV w' A vs := fun q => by
  obtain ⟨p, e, hp, hc⟩ := h q
  exact ⟨p, e, Nat.lt_of_lt_of_le hp k.size, fun j v hj => (Below.cell k (by rw [block_of_add]; exact hp)).trans (hc j v hj)⟩
theorem RV.nil (w : World) (A : Option Addr) : RV w A [] := fun q => absurd rfl q
theorem RV.at_ {w : World} {A : Option Addr} {vs : List Value} (h : RV w A vs) {j : Nat} (hj : j < vs.length) : ∃ p, A = some p ∧ w.cell? (p.add j) = some vs[j] := by
  obtain ⟨p, e, hp, hc⟩ := h (fun q => by rw [q] at hj; cases hj)
  exact ⟨p, e, hc j _ (List.getElem?_eq_getElem hj)⟩
theorem rv_of_blk {w : World} {g : Nat} {t : TypeId} {cs : Array Value} {vs : List Value} (h : Blk w g t cs) (hv : ∀ (j : Nat) (v : Value), vs[j]? = some v → cs[j]? = some v) : RV w (some ⟨g, 0, none⟩) vs :=
  fun _ => ⟨_, rfl, h.lt, fun j v hj => by rw [add_zero', h.cell j]; exact hv j v hj⟩
theorem rv_of_own {w : World} {n₀ : Nat} {e : TypeId} {size n : Nat} {A : Option Addr} {k c : Nat} {vs : List Value} (h : w.ownsRow n₀ e size (.slice A k c) n vs) (hl : vs.length = n * size) : k = n ∧ n ≤ c ∧ c ≤ maxLen ∧ (A = none → c = 0) ∧ RV w A vs := by
  rcases h.2 with ⟨e1, h0⟩ | ⟨g, cap, cur, e1, hb, hg, h1, h2, h3, h4⟩
  · cases e1
    subst h0
    refine ⟨rfl, Nat.zero_le _, Nat.zero_le _, fun _ => rfl, fun q => absurd (List.eq_nil_of_length_eq_zero (by omega)) q⟩
  · cases e1
    refine ⟨rfl, h1, h2, fun q => (by cases q), rv_of_blk hg fun j v hj => ?_⟩
    have hlt : j < vs.length := by
      rcases Nat.lt_or_ge j vs.length with q | q
      · exact q
      · rw [List.getElem?_eq_none q] at hj; cases hj
    rw [← h4, List.getElem?_take, if_pos (by omega)] at hj
    simpa using hj
theorem own_slice {w : World} {n₀ : Nat} {e : TypeId} {size n : Nat} {v : Value} {vs : List Value} (h : w.ownsRow n₀ e size v n vs) : ∃ A c, v = .slice A n c := by
  rcases h.2 with ⟨e1, h0⟩ | ⟨g, cap, cur, e1, _⟩
  · exact ⟨none, 0, by rw [e1, h0]⟩
  · exact ⟨_, _, e1⟩

/-- A slice of numbers. -/
def Sl (k : IntKind) (w : World) (v : Value) (xs : List Int) : Prop := ∃ A c, v = .slice A xs.length c ∧ xs.length ≤ c ∧ c ≤ maxLen ∧ (A = none → c = 0) ∧ RV w A (xs.map (Value.int k))
section
variable {k : IntKind} {w w' : World} {v : Value} {xs : List Int}
theorem Sl.up (h : Sl k w v xs) (u : Up w w') : Sl k w' v xs := by
  obtain ⟨A, c, e, h1, h2, h3, h4⟩ := h
  exact ⟨A, c, e, h1, h2, h3, h4.up u⟩
theorem Sl.nil (k : IntKind) (w : World) : Sl k w (.slice none 0 0) [] := ⟨none, 0, rfl, Nat.le_refl _, Nat.zero_le _, fun _ => rfl, RV.nil _ _⟩
theorem Sl.slice (h : Sl k w v xs) : ∃ A c, v = .slice A xs.length c := by
  obtain ⟨A, c, e, _⟩ := h
  exact ⟨_, _, e⟩
theorem Sl.rv {A : Option Addr} {n c : Nat} (h : Sl k w (.slice A n c) xs) : xs.length = n ∧ RV w A (xs.map (Value.int k)) ∧ n ≤ c ∧ c ≤ maxLen ∧ (A = none → c = 0) := by
  obtain ⟨A', c', e, h1, h2, h3, h4⟩ := h
  cases e
  exact ⟨rfl, h4, h1, h2, h3⟩
theorem Sl.len {A : Option Addr} {n c : Nat} (h : Sl k w (.slice A n c) xs) : xs.length = n := h.rv.1
theorem Sl.at_ {A : Option Addr} {n c x : Nat} (h : Sl k w (.slice A n c) xs) (hx : x < n) : ∃ p, A = some p ∧ w.cell? (p.add x) = some (.int k (xs.getD x 0)) := by
  obtain ⟨e, h4, _⟩ := h.rv
  have hx' : x < (xs.map (Value.int k)).length := by rw [List.length_map]; omega
  obtain ⟨p, e2, hc⟩ := h4.at_ hx'
  refine ⟨p, e2, ?_⟩
  rw [hc]
  have : x < xs.length := by omega
  simp [List.getD, List.getElem?_eq_getElem this]
theorem Sl.max (h : Sl k w v xs) : xs.length ≤ maxLen := by
  obtain ⟨A, c, e, h1, h2, _⟩ := h
  omega
end

/-- Values are slices of the rows. -/
def Gd (k : IntKind) (w : World) (us : List Value) (L : List (List Int)) : Prop := us.length = L.length ∧ ∀ (j : Nat) (u : Value) (xs : List Int), us[j]? = some u → L[j]? = some xs → Sl k w u xs
theorem Gd.up {k : IntKind} {w w' : World} {us : List Value} {L : List (List Int)} (h : Gd k w us L) (u : Up w w') : Gd k w' us L := ⟨h.1, fun j a xs h1 h2 => (h.2 j a xs h1 h2).up u⟩
theorem Gd.at_ {k : IntKind} {w : World} {us : List Value} {L : List (List Int)} (h : Gd k w us L) {j : Nat} (hj : j < L.length) : ∃ u, us[j]? = some u ∧ Sl k w u (L.getD j []) := by
  have h1 : j < us.length := by rw [h.1]; exact hj
  exact ⟨us[j], List.getElem?_eq_getElem h1, by
    have := h.2 j us[j] L[j] (List.getElem?_eq_getElem h1) (List.getElem?_eq_getElem hj)
    simpa [List.getD, List.getElem?_eq_getElem hj] using this⟩
/-- A slice of rows. -/
def RwW (k : IntKind) (w : World) (v : Value) (us : List Value) (L : List (List Int)) : Prop := ∃ A c, v = .slice A L.length c ∧ L.length ≤ c ∧ c ≤ maxLen ∧ (A = none → c = 0) ∧ RV w A us ∧ Gd k w us L
def Rw (k : IntKind) (w : World) (v : Value) (L : List (List Int)) : Prop := ∃ us, RwW k w v us L
section
variable {k : IntKind} {w w' : World} {v : Value} {us : List Value} {L : List (List Int)}
theorem RwW.up (h : RwW k w v us L) (u : Up w w') : RwW k w' v us L := by
  obtain ⟨A, c, e, h1, h2, h3, h4, h5⟩ := h
  exact ⟨A, c, e, h1, h2, h3, h4.up u, h5.up u⟩
theorem Rw.up (h : Rw k w v L) (u : Up w w') : Rw k w' v L := by
  obtain ⟨us, h⟩ := h
  exact ⟨us, h.up u⟩
theorem Rw.nil (k : IntKind) (w : World) : Rw k w (.slice none 0 0) [] := ⟨[], none, 0, rfl, Nat.le_refl _, Nat.zero_le _, fun _ => rfl, RV.nil _ _, rfl, fun j u xs h => by simp at h⟩
theorem RwW.at_ {A : Option Addr} {n c x : Nat} (h : RwW k w (.slice A n c) us L) (hx : x < n) : ∃ p u, A = some p ∧ us[x]? = some u ∧ w.cell? (p.add x) = some u ∧ Sl k w u (L.getD x []) := by
  obtain ⟨A', c', e, h1, h2, h3, h4, h5⟩ := h
  cases e
  obtain ⟨u, hu, hs⟩ := h5.at_ hx
  have hl : x < us.length := by rw [h5.1]; exact hx
  obtain ⟨p, e2, hc⟩ := h4.at_ hl
  rw [List.getElem?_eq_getElem hl] at hu
  cases hu
  exact ⟨p, _, e2, List.getElem?_eq_getElem hl, hc, hs⟩
theorem Rw.at_ {A : Option Addr} {n c x : Nat} (h : Rw k w (.slice A n c) L) (hx : x < n) : ∃ p u, A = some p ∧ w.cell? (p.add x) = some u ∧ Sl k w u (L.getD x []) := by
  obtain ⟨us, h⟩ := h
  obtain ⟨p, u, e, _, hc, hs⟩ := h.at_ hx
  exact ⟨p, u, e, hc, hs⟩
theorem Rw.slice (h : Rw k w v L) : ∃ A c, v = .slice A L.length c ∧ L.length ≤ maxLen := by
  obtain ⟨us, A, c, e, h1, h2, _⟩ := h
  exact ⟨_, _, e, by omega⟩
theorem Rw.len {A : Option Addr} {n c : Nat} (h : Rw k w (.slice A n c) L) : L.length = n := by
  obtain ⟨us, A', c', e, _⟩ := h
  cases e
  rfl
end

/-- A node's cells. -/
def nvs : List Nd → List Value → List Value
  | n :: r, u :: us => .int .i64 n.1.1 :: .int .i64 n.1.2.1 :: .int .u64 n.1.2.2 :: u :: nvs r us
  | _, _ => []
theorem nvs_len : ∀ (ns : List Nd) (us : List Value), us.length = ns.length → (nvs ns us).length = ns.length * 4
  | [], _, _ => rfl
  | n :: r, [], h => by cases h
  | n :: r, u :: us, h => by simp only [nvs, List.length_cons, nvs_len r us (by simpa using h)]; omega
theorem nvs_at : ∀ (ns : List Nd) (us : List Value) (j : Nat) (n : Nd) (u : Value), ns[j]? = some n → us[j]? = some u →
    (nvs ns us)[j * 4]? = some (.int .i64 n.1.1) ∧ (nvs ns us)[j * 4 + 1]? = some (.int .i64 n.1.2.1) ∧ (nvs ns us)[j * 4 + 2]? = some (.int .u64 n.1.2.2) ∧ (nvs ns us)[j * 4 + 3]? = some u
  | [], us, j, n, u, h, _ => by simp at h
  | n :: r, [], j, _, u, _, h => by simp at h
  | n :: r, u :: us, 0, n', u', h, k => by simp at h k; subst h; subst k; simp [nvs]
  | n :: r, u :: us, j + 1, n', u', h, k => by
    have := nvs_at r us j n' u' (by simpa using h) (by simpa using k)
    rw [show (j + 1) * 4 = j * 4 + 1 + 1 + 1 + 1 from by omega]
    simpa [nvs] using this
theorem nvs_app : ∀ (ns ms : List Nd) (us xs : List Value), us.length = ns.length → nvs (ns ++ ms) (us ++ xs) = nvs ns us ++ nvs ms xs
  | [], ms, [], xs, _ => rfl
  | n :: r, ms, u :: us, xs, h => by simp [nvs, nvs_app r ms us xs (by simpa using h)]
/-- A slice of nodes. -/
def NsW (w : World) (v : Value) (us : List Value) (ns : List Nd) : Prop := ∃ A c, v = .slice A ns.length c ∧ ns.length ≤ c ∧ c ≤ maxLen ∧ (A = none → c = 0) ∧ RV w A (nvs ns us) ∧ Gd .u64 w us (ns.map (·.2))
def Ns (w : World) (v : Value) (ns : List Nd) : Prop := ∃ us, NsW w v us ns
/-- The cells of a node, as the walk spells them. -/
def NdAt (w : World) (q : Addr) (n : Nd) (u : Value) : Prop := w.cell? q = some (.int .i64 n.1.1) ∧ w.cell? ⟨q.block, q.off + 1, none⟩ = some (.int .i64 n.1.2.1) ∧ w.cell? ⟨q.block, q.off + 2, none⟩ = some (.int .u64 n.1.2.2) ∧ w.cell? ⟨q.block, q.off + 3, none⟩ = some u
theorem nxt_add1 (p : Addr) (j : Nat) : (⟨(p.add j).block, (p.add j).off + 1, none⟩ : Addr) = p.add (j + 1) := by rw [← add_add]; rfl
theorem nxt_add2 (p : Addr) (j : Nat) : (⟨(p.add j).block, (p.add j).off + 2, none⟩ : Addr) = p.add (j + 2) := by rw [← add_add]; rfl
theorem nxt_add3 (p : Addr) (j : Nat) : (⟨(p.add j).block, (p.add j).off + 3, none⟩ : Addr) = p.add (j + 3) := by rw [← add_add]; rfl
section
variable {w w' : World} {v : Value} {us : List Value} {ns : List Nd}
theorem NsW.up (h : NsW w v us ns) (u : Up w w') : NsW w' v us ns := by
  obtain ⟨A, c, e, h1, h2, h3, h4, h5⟩ := h
  exact ⟨A, c, e, h1, h2, h3, h4.up u, h5.up u⟩
theorem Ns.up (h : Ns w v ns) (u : Up w w') : Ns w' v ns := by
  obtain ⟨us, h⟩ := h
  exact ⟨us, h.up u⟩
theorem NsW.at_ {A : Option Addr} {n c x : Nat} (h : NsW w (.slice A n c) us ns) (hx : x < n) : ∃ p u, A = some p ∧ us[x]? = some u ∧ NdAt w (p.add (x * 4)) (ns.getD x ((0, 0, 0), [])) u ∧ Sl .u64 w u (ns.getD x ((0, 0, 0), [])).2 := by
  obtain ⟨A', c', e, h1, h2, h3, h4, h5⟩ := h
  cases e
  have hl : us.length = ns.length := by rw [h5.1, List.length_map]
  have hu : x < us.length := by omega
  have e := nvs_at ns us x ns[x] us[x] (List.getElem?_eq_getElem hx) (List.getElem?_eq_getElem hu)
  have hlen := nvs_len ns us hl
  obtain ⟨p, e2, hp, hc⟩ := h4 (fun q => by rw [q] at hlen; simp at hlen; omega)
  have hn : ns.getD x ((0, 0, 0), []) = ns[x] := by simp [List.getD, List.getElem?_eq_getElem hx]
  rw [hn]
  refine ⟨p, us[x], e2, List.getElem?_eq_getElem hu, ⟨hc _ _ e.1, ?_, ?_, ?_⟩, h5.2 x _ _ (List.getElem?_eq_getElem hu) (by simp [List.getElem?_eq_getElem hx])⟩
  · rw [nxt_add1]; exact hc _ _ e.2.1
  · rw [nxt_add2]; exact hc _ _ e.2.2.1
  · rw [nxt_add3]; exact hc _ _ e.2.2.2
theorem Ns.at_ {A : Option Addr} {n c x : Nat} (h : Ns w (.slice A n c) ns) (hx : x < n) : ∃ p u, A = some p ∧ NdAt w (p.add (x * 4)) (ns.getD x ((0, 0, 0), [])) u ∧ Sl .u64 w u (ns.getD x ((0, 0, 0), [])).2 := by
  obtain ⟨us, h⟩ := h
  obtain ⟨p, u, e, _, hc, hs⟩ := h.at_ hx
  exact ⟨p, u, e, hc, hs⟩
theorem Ns.slice (h : Ns w v ns) : ∃ A c, v = .slice A ns.length c ∧ ns.length ≤ maxLen := by
  obtain ⟨us, A, c, e, h1, h2, _⟩ := h
  exact ⟨_, _, e, by omega⟩
theorem Ns.len {A : Option Addr} {n c : Nat} (h : Ns w (.slice A n c) ns) : ns.length = n := by
  obtain ⟨us, A', c', e, _⟩ := h
  cases e
  rfl
theorem Ns.nil (w : World) : Ns w (.slice none 0 0) [] := ⟨[], none, 0, rfl, Nat.le_refl _, Nat.zero_le _, fun _ => rfl, RV.nil _ _, rfl, fun j u xs h => by simp at h⟩
end
/-- A graph, as a value. -/
def GrV (w : World) (v : Value) (g : Gr) : Prop := ∃ a b, v = .agg #[a, b] ∧ Ns w a g.1 ∧ Rw .i64 w b g.2
theorem GrV.up {w w' : World} {v : Value} {g : Gr} (h : GrV w v g) (u : Up w w') : GrV w' v g := by
  obtain ⟨a, b, e, h1, h2⟩ := h
  exact ⟨a, b, e, h1.up u, h2.up u⟩

end Go.Proofs.YtanhhkdoejnpiaaGreat.G
/-! Of stage 15 -/
namespace Go.Proofs.YtanhhkdoejnpiaaGreat.G
open Go.Joins Go.ChangeShapes Go.WideShapes Go.ChangeAt Go.RowKit Go.Deep Go.Shelf Go.Maps
set_option linter.unusedVariables false
set_option linter.unusedSimpArgs false

/-- An element's type, and the slice's. -/
structure El (T e : TypeId) (size bytes : Nat) : Prop where
  ex : ∃ i0 z, Tryz.prog.info? e = some i0 ∧ i0.zero = some z ∧ i0.size = size ∧ i0.bytes = bytes ∧ z.cells.size = size
  und : Tryz.prog.underlying T = some (.slice e)
  pos : 0 < size
  small : bytes ≤ 48
theorem el_u64 : El 22 67 1 8 := ⟨by
  obtain ⟨i0, h1, h2, h3, h4⟩ := info_parts (P := Tryz.prog) (e := 67) (z := .int .u64 0) (size := 1) (bytes := 8) (by kernel_rfl)
  exact ⟨i0, _, h1, h2, h3, h4, rfl⟩, Tryz.underlying22, by decide, by decide⟩
theorem el_int : El 72 3 1 8 := ⟨by
  obtain ⟨i0, h1, h2, h3, h4⟩ := info_parts (P := Tryz.prog) (e := 3) (z := .int .i64 0) (size := 1) (bytes := 8) (by kernel_rfl)
  exact ⟨i0, _, h1, h2, h3, h4, rfl⟩, Tryz.underlying72, by decide, by decide⟩
theorem el_node : El 27 71 4 48 := ⟨by
  obtain ⟨i0, h1, h2, h3, h4⟩ := info_parts (P := Tryz.prog) (e := 71) (z := .agg #[.int .i64 0, .int .i64 0, .int .u64 0, .slice none 0 0]) (size := 4) (bytes := 48) (by kernel_rfl)
  exact ⟨i0, _, h1, h2, h3, h4, rfl⟩, Tryz.underlying27, by decide, by decide⟩
theorem run_none {T e : TypeId} {size bytes : Nat} (E : El T e size bytes) (A B : Option Addr) (n cap c : Nat) (hc : n ≤ cap) (ty : TypeId) (w : World) : (Builtin.append_ #[T, T] ty #[.slice A n cap, .slice B 0 c]).run Tryz.prog w = .ok (.slice A n cap) w := by
  obtain ⟨⟨i0, z, hi, hz0, hz1, hz2, _⟩, hu, _, _⟩ := E
  cases A <;> cases B <;> simp [Builtin.append_, run_underlying hu, sizeOf, typeInfo, hi, Builtin.lenOf, Builtin.firstCells, loadCells, loadCellsFrom, storeCells, hc]
theorem grown_self (w : World) (r : Option Nat) : w.grownBy w r := ⟨rfl, rfl, rfl, Nat.le_refl _, fun _ _ _ => rfl⟩
/-- An append of some or of none onto a row of the call's own. -/
theorem run_any {T e : TypeId} {size bytes : Nat} (E : El T e size bytes) {w : World} (ty : TypeId) (n₀ n : Nat) (v : Value) (xs : List Value) (hx : w.ownsRow n₀ e size v n xs) (A : Option Addr) (m c : Nat) (ys : List Value) (hl : ys.length = m * size) (hy : RV w A ys) (h1 : ∀ u ∈ ys, u.oneCell' = true)
    (hb : n + m ≤ 1099511627776) (hbase : n₀ ≤ w.heap.size) :
    ∃ v' w', (Builtin.append_ #[T, T] ty #[v, .slice A m c]).run Tryz.prog w = .ok v' w' ∧ w'.ownsRow n₀ e size v' (n + m) (xs ++ ys) ∧ w.grownBy w' v.ownBlock ∧ (m = 0 → v' = v ∧ w' = w) := by
  by_cases hm : m = 0
  · subst hm
    obtain rfl : ys = [] := List.eq_nil_of_length_eq_zero (by omega)
    rw [List.append_nil]
    have hx0 := hx
    obtain ⟨hl, hc⟩ := hx
    rcases hc with ⟨rfl, h0⟩ | ⟨g, cap, cur, rfl, q1, q2, q3, q4⟩
    · exact ⟨_, w, run_none E none A 0 0 c (Nat.le_refl _) ty w, hx0, grown_self _ _, fun _ => ⟨rfl, rfl⟩⟩
    · exact ⟨_, w, run_none E (some ⟨g, 0, none⟩) A n cap c q3 ty w, hx0, grown_self _ _, fun _ => ⟨rfl, rfl⟩⟩
  · have hs := E.pos
    obtain ⟨p, rfl, hp, hc⟩ := hy (fun q => by rw [q] at hl; have := Nat.mul_pos (Nat.pos_of_ne_zero hm) hs; simp at hl; omega)
    have hsm := E.small
    obtain ⟨⟨i0, z, hi, hz0, hz1, hz2, hz3⟩, hu, _, _⟩ := E
    obtain ⟨g, cap, w', r1, r2, r3, _⟩ := run_append_lies (P := Tryz.prog) w T ty n₀ e i0 z size bytes hu hi hz0 hz1 hz2 hz3 hs v n xs hx p m c ys hl hc h1 (by omega) (by unfold maxLen; omega) (by
      have := Nat.mul_le_mul hb hsm
      omega) hbase w.heap.size rfl
    exact ⟨_, w', r1, r2, r3, fun q => absurd q hm⟩
theorem one_ints (k : IntKind) (xs : List Int) : ∀ u ∈ xs.map (Value.int k), u.oneCell' = true := fun u h => by
  obtain ⟨x, _, rfl⟩ := List.mem_map.1 h
  rfl
def Slices (us : List Value) : Prop := ∀ u ∈ us, ∃ A n c, u = .slice A n c
theorem nvs_one : ∀ (ns : List Nd) (us : List Value), Slices us → ∀ u ∈ nvs ns us, u.oneCell' = true
  | [], us, _, u, h => by simp [nvs] at h
  | n :: r, [], _, u, h => by simp [nvs] at h
  | n :: r, x :: us, hs, u, h => by
    simp only [nvs, List.mem_cons] at h
    rcases h with rfl | rfl | rfl | rfl | h
    · rfl
    · rfl
    · rfl
    · obtain ⟨A, n, c, rfl⟩ := hs u (by simp); rfl
    · exact nvs_one r us (fun y hy => hs y (by simp [hy])) u h
theorem Gd.slices {k : IntKind} {w : World} {us : List Value} {L : List (List Int)} (h : Gd k w us L) : Slices us := fun u hu => by
  obtain ⟨j, hj, rfl⟩ := List.getElem_of_mem hu
  have hjl : j < L.length := by rw [← h.1]; exact hj
  obtain ⟨A, c, e⟩ := (h.2 j _ _ (List.getElem?_eq_getElem hj) (List.getElem?_eq_getElem hjl)).slice
  exact ⟨_, _, _, e⟩
theorem up_own {W w w' : World} {e : TypeId} {size n : Nat} {v : Value} {xs : List Value} (h : Up W w) (hx : w.ownsRow W.heap.size e size v n xs) (hg : w.grownBy w' v.ownBlock) : Up W w' := h.grown hg (fun k e => (World.ownsRow.lt hx k e).1)
theorem own_up {w w' : World} {n₀ : Nat} {e : TypeId} {size n : Nat} {v : Value} {xs : List Value} (h : w.ownsRow n₀ e size v n xs) (k : Up w w') : w'.ownsRow n₀ e size v n xs :=
  World.ownsRow.kept h k.gb (by
    cases e : v.ownBlock with
    | none => exact .inl rfl
    | some g => exact .inr (by simp))
theorem own_le {w : World} {n₀ n₁ : Nat} {e : TypeId} {size n : Nat} {v : Value} {xs : List Value} (h : w.ownsRow n₀ e size v n xs) (k : n₁ ≤ n₀) : w.ownsRow n₁ e size v n xs :=
  ⟨h.1, h.2.imp id fun ⟨g, cap, cur, h1, h2, r⟩ => ⟨g, cap, cur, h1, Nat.le_trans k h2, r⟩⟩
theorem own_empty {V : World} {g n₀ : Nat} {e : TypeId} {size : Nat} (h : Blk V g e #[]) (hb : n₀ ≤ g) : V.ownsRow n₀ e size (.slice (some ⟨g, 0, none⟩) 0 0) 0 [] := ⟨by simp, .inr ⟨g, 0, #[], rfl, hb, h, Nat.le_refl _, Nat.zero_le _, by simp, by simp⟩⟩
theorem nil_is {T e : TypeId} (h : Tryz.prog.underlying T = some (.slice e)) (w : World) : (binOp .eql T (.slice none 0 0) (.slice none 0 0)).run Tryz.prog w = .ok (.bool true) w := Lib.run_eql_slice_nil w _ _ none 0 0 0 0 h
theorem nil_no {T e : TypeId} (h : Tryz.prog.underlying T = some (.slice e)) (p : Addr) (n c : Nat) (w : World) : (binOp .eql T (.slice (some p) n c) (.slice none 0 0)).run Tryz.prog w = .ok (.bool false) w := Lib.run_eql_slice_nil w _ _ (some p) n c 0 0 h
/-- A row of the call's own comes. -/
def OwnPost (e : TypeId) (size n : Nat) (vs : List Value) (w : World) (en : Ending) (w' : World) : Prop := ∃ v, en = .returned v ∧ w'.ownsRow w.heap.size e size v n vs ∧ Up w w'

theorem flat_take {α : Type} (L : List (List α)) {x : Nat} (h : x < L.length) : (L.take (x + 1)).flatten = (L.take x).flatten ++ L.getD x [] := by
  rw [List.take_succ_eq_append_getElem h, List.flatten_append]
  simp [List.getD, List.getElem?_eq_getElem h]
theorem flat_one {α : Type} (L : List (List α)) {x : Nat} (h : x < L.length) : (L.take (x + 1)).flatten.length = (L.take x).flatten.length + (L.getD x []).length := by rw [flat_take L h, List.length_append]
theorem flat_le {α : Type} (L : List (List α)) (x : Nat) : (L.take x).flatten.length ≤ L.flatten.length := by
  have h : L.flatten = (L.take x).flatten ++ (L.drop x).flatten := by rw [← List.flatten_append, List.take_append_drop]
  rw [h, List.length_append]
  omega

theorem clone_node (A : Option Addr) (n c : Nat) (vs : List Value) (w : World) (hA : A = none → c = 0) (hnc : n ≤ c) (hl : vs.length = n * 4) (hr : RV w A vs) (h1 : ∀ u ∈ vs, u.oneCell' = true) (hb : n ≤ 1099511627776) :
    Calls Tryz.prog 130 #[.slice A n c] w (OwnPost 71 4 n vs w) := by
  cases A with
  | none =>
    obtain rfl := hA rfl
    obtain rfl : n = 0 := by omega
    obtain rfl : vs = [] := List.eq_nil_of_length_eq_zero (by omega)
    have q := nil_is (T := 27) el_node.und
    clear hr h1 hA
    go_enter Tryz.func130, Tryz.ntmps130
    go_wp2
    go_ret
    exact ⟨_, rfl, World.ownsRow_nil _ _ _ _, Up.refl _⟩
  | some p =>
    have q := nil_no (T := 27) el_node.und p n c
    obtain ⟨v', w', hrun, hown, hg, -⟩ := run_any el_node (w := w.alloc (.cells #[] 71)) 27 w.heap.size 0 (.slice (some ⟨w.heap.size, 0, none⟩) 0 0) [] (own_empty (Blk.new w _ _) (Nat.le_refl _)) (some p) n c vs hl (hr.up ((Up.refl w).alloc _)) h1 (by omega) (by simp)
    rw [Nat.zero_add, List.nil_append] at hown
    have hU : Up w w' := up_own ((Up.refl w).alloc _) (own_empty (e := 71) (size := 4) (Blk.new w _ _) (Nat.le_refl _)) hg
    have HO := Lib.hid hown
    have HU := Lib.hid hU
    clear hown hU hg hr h1 hA hl hnc
    go_enter Tryz.func130, Tryz.ntmps130
    go_wp2_with (at_builtin; refine Lib.wpList_append_run _ rfl _ _ _ _ rfl _ _ rfl rfl _ _ hrun ?_)
    go_ret
    exact ⟨_, rfl, HO.out, HU.out⟩

theorem clone_u64 (A : Option Addr) (n c : Nat) (vs : List Value) (w : World) (hA : A = none → c = 0) (hnc : n ≤ c) (hl : vs.length = n * 1) (hr : RV w A vs) (h1 : ∀ u ∈ vs, u.oneCell' = true) (hb : n ≤ 1099511627776) :
    Calls Tryz.prog 99 #[.slice A n c] w (OwnPost 67 1 n vs w) := by
  cases A with
  | none =>
    obtain rfl := hA rfl
    obtain rfl : n = 0 := by omega
    obtain rfl : vs = [] := List.eq_nil_of_length_eq_zero (by omega)
    have q := nil_is (T := 22) el_u64.und
    clear hr h1 hA
    go_enter Tryz.func99, Tryz.ntmps99
    go_wp2
    go_ret
    exact ⟨_, rfl, World.ownsRow_nil _ _ _ _, Up.refl _⟩
  | some p =>
    have q := nil_no (T := 22) el_u64.und p n c
    obtain ⟨v', w', hrun, hown, hg, -⟩ := run_any el_u64 (w := w.alloc (.cells #[] 67)) 22 w.heap.size 0 (.slice (some ⟨w.heap.size, 0, none⟩) 0 0) [] (own_empty (Blk.new w _ _) (Nat.le_refl _)) (some p) n c vs hl (hr.up ((Up.refl w).alloc _)) h1 (by omega) (by simp)
    rw [Nat.zero_add, List.nil_append] at hown
    have hU : Up w w' := up_own ((Up.refl w).alloc _) (own_empty (e := 67) (size := 1) (Blk.new w _ _) (Nat.le_refl _)) hg
    have HO := Lib.hid hown
    have HU := Lib.hid hU
    clear hown hU hg hr h1 hA hl hnc
    go_enter Tryz.func99, Tryz.ntmps99
    go_wp2_with (at_builtin; refine Lib.wpList_append_run _ rfl _ _ _ _ rfl _ _ rfl rfl _ _ hrun ?_)
    go_ret
    exact ⟨_, rfl, HO.out, HU.out⟩

set_option maxHeartbeats 1000000 in
/-- Room for so many, of nothing. -/
theorem grow_u64 (n : Nat) (w : World) (hb : n ≤ 1099511627776) :
    Calls Tryz.prog 107 #[.slice none 0 0, .int .i64 n] w fun e w' => ∃ v, e = .returned v ∧ w'.ownsRow w.heap.size 67 1 v 0 [] ∧ (n = 0 → v = .slice none 0 0) ∧ Up w w' := by
  by_cases h0 : n = 0
  · subst h0
    go_enter Tryz.func107, Tryz.ntmps107
    go_wp2
    go_ret
    exact ⟨_, rfl, World.ownsRow_nil _ _ _ _, fun _ => rfl, Up.refl _⟩
  · obtain ⟨i0, z, hi, hz0, hz1, hz2⟩ := el_u64.ex
    have hz : z = .int .u64 0 := by
      have h1 := info_parts (P := Tryz.prog) (e := 67) (z := .int .u64 0) (size := 1) (bytes := 8) (by kernel_rfl)
      obtain ⟨i1, e1, e2, _⟩ := h1
      rw [hi] at e1
      cases e1
      rw [hz0] at e2
      cases e2
      rfl
    have hrun := fun ty => Lib.run_append_nil_zeros (P := Tryz.prog) w 22 3 ty 67 i0 z .i64 .i64 el_u64.und Tryz.underlying3 hi hz0 n (by omega) (by rw [hz1]; decide) (by omega) (by rw [hz2.1]; omega)
    have hge := grownCap_ge w n 0 67
    have hle := grownCap_le_maxLen w n 0 67 (by unfold maxLen; omega)
    subst hz
    have hown : (w.drew.alloc (.cells (Builtin.zeroCells (Value.int .u64 0).cells n ++ Builtin.zeroCells (Value.int .u64 0).cells (grownCap w n 0 67 - n)) 67)).ownsRow w.heap.size 67 1 (.slice (some ⟨w.heap.size, 0, none⟩) 0 (grownCap w n 0 67)) 0 [] := by
      refine ⟨by simp, .inr ⟨w.heap.size, _, _, rfl, Nat.le_refl _, Blk.new w.drew _ _, Nat.zero_le _, hle, ?_, by simp⟩⟩
      rw [Array.size_append, size_zeroCells, size_zeroCells]
      show n * 1 + (grownCap w n 0 67 - n) * 1 = _
      omega
    have HO := Lib.hid hown
    have HU : Hid (Up w (w.drew.alloc (.cells (Builtin.zeroCells (Value.int .u64 0).cells n ++ Builtin.zeroCells (Value.int .u64 0).cells (grownCap w n 0 67 - n)) 67))) := Lib.hid ((Up.refl w).drew.alloc _)
    clear hown hi hz0 hz1 hz2 hge hle
    have hd : decide ((n : Int) < 0) = false := decide_eq_false (by omega)
    have hd2 : decide (0 < (n : Int)) = true := decide_eq_true (by omega)
    generalize grownCap w n 0 67 = cap at *
    generalize w.drew.alloc (.cells (Builtin.zeroCells (Value.int .u64 0).cells n ++ Builtin.zeroCells (Value.int .u64 0).cells (cap - n)) 67) = w1 at *
    go_enter Tryz.func107, Tryz.ntmps107
    go_wp2_with (at_builtin; refine Lib.wpList_append_run _ rfl _ _ _ _ rfl _ _ rfl rfl _ _ (hrun _) ?_)
    go_ret
    exact ⟨_, rfl, HO.out, fun q => absurd q h0, HU.out⟩

def Sumu64 (w : World) (L : List (List Int)) (n : Nat) (s i : Value) (wr : World) : Prop := ∃ x : Nat, x ≤ n ∧ i = .int .i64 x ∧ s = .int .i64 ((L.take x).flatten.length : Nat) ∧ w = wr
def Catu64 (w : World) (L : List (List Int)) (n : Nat) (u i : Value) (wr : World) : Prop := ∃ x : Nat, x ≤ n ∧ i = .int .i64 x ∧ wr.ownsRow w.heap.size 67 1 u (L.take x).flatten.length ((L.take x).flatten.map (Value.int .u64)) ∧ (L.flatten = [] → u = .slice none 0 0) ∧ Up w wr
set_option maxRecDepth 100000 in
set_option maxHeartbeats 4000000 in
theorem concat_u64 (v : Value) (L : List (List Int)) (w : World) (hL : Rw .u64 w v L) (hT : L.flatten.length ≤ 1099511627776) :
    Calls Tryz.prog 64 #[v] w fun e w' => ∃ u, e = .returned u ∧ w'.ownsRow w.heap.size 67 1 u L.flatten.length (L.flatten.map (Value.int .u64)) ∧ (L.flatten = [] → u = .slice none 0 0) ∧ Up w w' := by
  have HL := Lib.hid hL
  obtain ⟨A, c, rfl, hm⟩ := hL.slice
  unfold maxLen at hm
  generalize hn : L.length = n at *
  have HN := Lib.hid hn
  clear hL hn
  have HT := Lib.hid hT
  clear hT
  go_enter Tryz.func64, Tryz.ntmps64
  go_wp2
  go_loopw [3, 11] (fun s i wr => Sumu64 w L n s i wr) (fun _ i _ => n - (intOf i).toNat)
  case atStart => exact ⟨0, Nat.zero_le _, rfl, rfl, rfl⟩
  case round =>
    obtain ⟨x, hx, rfl, rfl, rfl⟩ := hrel
    by_cases hlt : x < n
    · obtain ⟨p, u, rfl, hcu, hsu⟩ := HL.out.at_ hlt
      have hlx : x < L.length := by rw [HN.out]; exact hlt
      obtain ⟨Au, cu, rfl, -⟩ := hsu
      have e1 := flat_one L hlx
      have e2 := flat_le L (x + 1)
      have e3 := HT.out
      have HE := Lib.hid e1
      have hb : (L.take x).flatten.length + (L.getD x []).length ≤ 1099511627776 := by omega
      clear e1 e2 e3
      generalize (L.take x).flatten.length = s at *
      generalize (L.getD x []).length = m at *
      have hd : decide ((s : Int) + (m : Int) < 0) = false := decide_eq_false (by omega)
      go_wp2
      refine ⟨⟨x + 1, by omega, by go_num, ?_, rfl⟩, by simp [intOf]; omega⟩
      rw [HE.out]
      go_num
    · obtain rfl : n = x := by omega
      have he : L.take n = L := List.take_of_length_le (by rw [HN.out]; exact Nat.le_refl _)
      rw [he]
      clear he
      have hT := HT.out
      have hg := Lib.hid (grow_u64 L.flatten.length w hT)
      generalize hs : L.flatten.length = s at hg ⊢
      have HS := Lib.hid hs
      clear hs hT
      go_wp2_with (fail)
      refine hg.out.mono ?_
      rintro e w1 ⟨v1, rfl, ho, hz, hU⟩
      have HO := Lib.hid ho
      have HZ := Lib.hid hz
      have HU := Lib.hid hU
      clear ho hz hU hg
      go_wp2
      go_loopw [6, 27] (fun u i wr => Catu64 w L n u i wr) (fun _ i _ => n - (intOf i).toNat)
      case atStart => exact ⟨0, Nat.zero_le _, rfl, HO.out, fun q => HZ.out (by rw [← HS.out, q]; rfl), HU.out⟩
      case round =>
        obtain ⟨x, hx, rfl, ho, hz, hU⟩ := hrel
        by_cases hlt : x < n
        · obtain ⟨p, u, rfl, hcu, hsu⟩ := (HL.out.up hU).at_ hlt
          have hlx : x < L.length := by rw [HN.out]; exact hlt
          obtain ⟨Au, cu, e, h1, h2, h3, h4⟩ := hsu
          subst e
          obtain ⟨v', w', hrun, hown, hgr, hsame⟩ := run_any el_u64 (w := wr) 22 w.heap.size _ _ _ ho Au (L.getD x []).length cu _ (by simp) h4 (one_ints _ _) (by
            have e1 := flat_one L hlx
            have e2 := flat_le L (x + 1)
            have e3 := HT.out
            have e4 := HS.out
            omega) hU.size
          have hU' : Up w w' := up_own hU ho hgr
          have hown' : w'.ownsRow w.heap.size 67 1 v' (L.take (x + 1)).flatten.length ((L.take (x + 1)).flatten.map (Value.int .u64)) := by
            rw [flat_one L hlx, flat_take L hlx, List.map_append]
            exact hown
          have hz' : L.flatten = [] → v' = .slice none 0 0 := fun q => by
            have e1 := flat_one L hlx
            have e2 := flat_le L (x + 1)
            rw [q] at e2
            have e3 : ([] : List Int).length = 0 := rfl
            have hm0 : (L.getD x []).length = 0 := by omega
            rw [(hsame hm0).1, hz q]
          have HO := Lib.hid hown'
          have HZ := Lib.hid hz'
          have HU := Lib.hid hU'
          clear hown hown' hz hz' hU hU' ho hgr hsame h4 h3
          obtain ⟨Ao, co, rfl⟩ := own_slice (Lib.hid HO.out).out
          generalize (L.getD x []).length = m at *
          generalize hsl : (L.take (x + 1)).flatten.length = sl at *
          have HSL := Lib.hid hsl
          clear hsl
          go_wp2_with (at_builtin; refine Lib.wpList_append_run _ rfl _ _ _ _ rfl _ _ rfl rfl _ _ hrun ?_)
          exact ⟨⟨x + 1, by omega, by go_num, by rw [HSL.out]; exact HO.out, HZ.out, HU.out⟩, by simp [intOf]; omega⟩
        · obtain rfl : n = x := by omega
          have he : L.take n = L := List.take_of_length_le (by rw [HN.out]; exact Nat.le_refl _)
          rw [he] at ho
          have HO := Lib.hid ho
          have HZ := Lib.hid hz
          have HU := Lib.hid hU
          clear ho hz hU he
          go_wp2
          go_ret
          rw [← HS.out]
          exact ⟨_, rfl, HO.out, HZ.out, HU.out⟩

set_option maxHeartbeats 1000000 in
/-- Room for so many, of nothing. -/
theorem grow_int (n : Nat) (w : World) (hb : n ≤ 1099511627776) :
    Calls Tryz.prog 151 #[.slice none 0 0, .int .i64 n] w fun e w' => ∃ v, e = .returned v ∧ w'.ownsRow w.heap.size 3 1 v 0 [] ∧ (n = 0 → v = .slice none 0 0) ∧ Up w w' := by
  by_cases h0 : n = 0
  · subst h0
    go_enter Tryz.func151, Tryz.ntmps151
    go_wp2
    go_ret
    exact ⟨_, rfl, World.ownsRow_nil _ _ _ _, fun _ => rfl, Up.refl _⟩
  · obtain ⟨i0, z, hi, hz0, hz1, hz2⟩ := el_int.ex
    have hz : z = .int .i64 0 := by
      have h1 := info_parts (P := Tryz.prog) (e := 3) (z := .int .i64 0) (size := 1) (bytes := 8) (by kernel_rfl)
      obtain ⟨i1, e1, e2, _⟩ := h1
      rw [hi] at e1
      cases e1
      rw [hz0] at e2
      cases e2
      rfl
    have hrun := fun ty => Lib.run_append_nil_zeros (P := Tryz.prog) w 72 3 ty 3 i0 z .i64 .i64 el_int.und Tryz.underlying3 hi hz0 n (by omega) (by rw [hz1]; decide) (by omega) (by rw [hz2.1]; omega)
    have hge := grownCap_ge w n 0 3
    have hle := grownCap_le_maxLen w n 0 3 (by unfold maxLen; omega)
    subst hz
    have hown : (w.drew.alloc (.cells (Builtin.zeroCells (Value.int .i64 0).cells n ++ Builtin.zeroCells (Value.int .i64 0).cells (grownCap w n 0 3 - n)) 3)).ownsRow w.heap.size 3 1 (.slice (some ⟨w.heap.size, 0, none⟩) 0 (grownCap w n 0 3)) 0 [] := by
      refine ⟨by simp, .inr ⟨w.heap.size, _, _, rfl, Nat.le_refl _, Blk.new w.drew _ _, Nat.zero_le _, hle, ?_, by simp⟩⟩
      rw [Array.size_append, size_zeroCells, size_zeroCells]
      show n * 1 + (grownCap w n 0 3 - n) * 1 = _
      omega
    have HO := Lib.hid hown
    have HU : Hid (Up w (w.drew.alloc (.cells (Builtin.zeroCells (Value.int .i64 0).cells n ++ Builtin.zeroCells (Value.int .i64 0).cells (grownCap w n 0 3 - n)) 3))) := Lib.hid ((Up.refl w).drew.alloc _)
    clear hown hi hz0 hz1 hz2 hge hle
    have hd : decide ((n : Int) < 0) = false := decide_eq_false (by omega)
    have hd2 : decide (0 < (n : Int)) = true := decide_eq_true (by omega)
    generalize grownCap w n 0 3 = cap at *
    generalize w.drew.alloc (.cells (Builtin.zeroCells (Value.int .i64 0).cells n ++ Builtin.zeroCells (Value.int .i64 0).cells (cap - n)) 3) = w1 at *
    go_enter Tryz.func151, Tryz.ntmps151
    go_wp2_with (at_builtin; refine Lib.wpList_append_run _ rfl _ _ _ _ rfl _ _ rfl rfl _ _ (hrun _) ?_)
    go_ret
    exact ⟨_, rfl, HO.out, fun q => absurd q h0, HU.out⟩

def Sumint (w : World) (L : List (List Int)) (n : Nat) (s i : Value) (wr : World) : Prop := ∃ x : Nat, x ≤ n ∧ i = .int .i64 x ∧ s = .int .i64 ((L.take x).flatten.length : Nat) ∧ w = wr
def Catint (w : World) (L : List (List Int)) (n : Nat) (u i : Value) (wr : World) : Prop := ∃ x : Nat, x ≤ n ∧ i = .int .i64 x ∧ wr.ownsRow w.heap.size 3 1 u (L.take x).flatten.length ((L.take x).flatten.map (Value.int .i64)) ∧ (L.flatten = [] → u = .slice none 0 0) ∧ Up w wr
set_option maxRecDepth 100000 in
set_option maxHeartbeats 4000000 in
theorem concat_int (v : Value) (L : List (List Int)) (w : World) (hL : Rw .i64 w v L) (hT : L.flatten.length ≤ 1099511627776) :
    Calls Tryz.prog 144 #[v] w fun e w' => ∃ u, e = .returned u ∧ w'.ownsRow w.heap.size 3 1 u L.flatten.length (L.flatten.map (Value.int .i64)) ∧ (L.flatten = [] → u = .slice none 0 0) ∧ Up w w' := by
  have HL := Lib.hid hL
  obtain ⟨A, c, rfl, hm⟩ := hL.slice
  unfold maxLen at hm
  generalize hn : L.length = n at *
  have HN := Lib.hid hn
  clear hL hn
  have HT := Lib.hid hT
  clear hT
  go_enter Tryz.func144, Tryz.ntmps144
  go_wp2
  go_loopw [3, 11] (fun s i wr => Sumint w L n s i wr) (fun _ i _ => n - (intOf i).toNat)
  case atStart => exact ⟨0, Nat.zero_le _, rfl, rfl, rfl⟩
  case round =>
    obtain ⟨x, hx, rfl, rfl, rfl⟩ := hrel
    by_cases hlt : x < n
    · obtain ⟨p, u, rfl, hcu, hsu⟩ := HL.out.at_ hlt
      have hlx : x < L.length := by rw [HN.out]; exact hlt
      obtain ⟨Au, cu, rfl, -⟩ := hsu
      have e1 := flat_one L hlx
      have e2 := flat_le L (x + 1)
      have e3 := HT.out
      have HE := Lib.hid e1
      have hb : (L.take x).flatten.length + (L.getD x []).length ≤ 1099511627776 := by omega
      clear e1 e2 e3
      generalize (L.take x).flatten.length = s at *
      generalize (L.getD x []).length = m at *
      have hd : decide ((s : Int) + (m : Int) < 0) = false := decide_eq_false (by omega)
      go_wp2
      refine ⟨⟨x + 1, by omega, by go_num, ?_, rfl⟩, by simp [intOf]; omega⟩
      rw [HE.out]
      go_num
    · obtain rfl : n = x := by omega
      have he : L.take n = L := List.take_of_length_le (by rw [HN.out]; exact Nat.le_refl _)
      rw [he]
      clear he
      have hT := HT.out
      have hg := Lib.hid (grow_int L.flatten.length w hT)
      generalize hs : L.flatten.length = s at hg ⊢
      have HS := Lib.hid hs
      clear hs hT
      go_wp2_with (fail)
      refine hg.out.mono ?_
      rintro e w1 ⟨v1, rfl, ho, hz, hU⟩
      have HO := Lib.hid ho
      have HZ := Lib.hid hz
      have HU := Lib.hid hU
      clear ho hz hU hg
      go_wp2
      go_loopw [6, 27] (fun u i wr => Catint w L n u i wr) (fun _ i _ => n - (intOf i).toNat)
      case atStart => exact ⟨0, Nat.zero_le _, rfl, HO.out, fun q => HZ.out (by rw [← HS.out, q]; rfl), HU.out⟩
      case round =>
        obtain ⟨x, hx, rfl, ho, hz, hU⟩ := hrel
        by_cases hlt : x < n
        · obtain ⟨p, u, rfl, hcu, hsu⟩ := (HL.out.up hU).at_ hlt
          have hlx : x < L.length := by rw [HN.out]; exact hlt
          obtain ⟨Au, cu, e, h1, h2, h3, h4⟩ := hsu
          subst e
          obtain ⟨v', w', hrun, hown, hgr, hsame⟩ := run_any el_int (w := wr) 72 w.heap.size _ _ _ ho Au (L.getD x []).length cu _ (by simp) h4 (one_ints _ _) (by
            have e1 := flat_one L hlx
            have e2 := flat_le L (x + 1)
            have e3 := HT.out
            have e4 := HS.out
            omega) hU.size
          have hU' : Up w w' := up_own hU ho hgr
          have hown' : w'.ownsRow w.heap.size 3 1 v' (L.take (x + 1)).flatten.length ((L.take (x + 1)).flatten.map (Value.int .i64)) := by
            rw [flat_one L hlx, flat_take L hlx, List.map_append]
            exact hown
          have hz' : L.flatten = [] → v' = .slice none 0 0 := fun q => by
            have e1 := flat_one L hlx
            have e2 := flat_le L (x + 1)
            rw [q] at e2
            have e3 : ([] : List Int).length = 0 := rfl
            have hm0 : (L.getD x []).length = 0 := by omega
            rw [(hsame hm0).1, hz q]
          have HO := Lib.hid hown'
          have HZ := Lib.hid hz'
          have HU := Lib.hid hU'
          clear hown hown' hz hz' hU hU' ho hgr hsame h4 h3
          obtain ⟨Ao, co, rfl⟩ := own_slice (Lib.hid HO.out).out
          generalize (L.getD x []).length = m at *
          generalize hsl : (L.take (x + 1)).flatten.length = sl at *
          have HSL := Lib.hid hsl
          clear hsl
          go_wp2_with (at_builtin; refine Lib.wpList_append_run _ rfl _ _ _ _ rfl _ _ rfl rfl _ _ hrun ?_)
          exact ⟨⟨x + 1, by omega, by go_num, by rw [HSL.out]; exact HO.out, HZ.out, HU.out⟩, by simp [intOf]; omega⟩
        · obtain rfl : n = x := by omega
          have he : L.take n = L := List.take_of_length_le (by rw [HN.out]; exact Nat.le_refl _)
          rw [he] at ho
          have HO := Lib.hid ho
          have HZ := Lib.hid hz
          have HU := Lib.hid hU
          clear ho hz hU he
          go_wp2
          go_ret
          rw [← HS.out]
          exact ⟨_, rfl, HO.out, HZ.out, HU.out⟩

end Go.Proofs.YtanhhkdoejnpiaaGreat.G
/-! Of stage 15 -/
namespace Go.Proofs.YtanhhkdoejnpiaaGreat.G
open Go.Joins Go.ChangeShapes Go.WideShapes Go.ChangeAt Go.RowKit Go.Deep Go.Shelf Go.Maps
set_option linter.unusedVariables false
set_option linter.unusedSimpArgs false

/-- Where a row begins. -/
def off (L : List (List Int)) (j : Nat) : Nat := (L.take j).flatten.length
theorem off_step {L : List (List Int)} {j : Nat} (h : j < L.length) : off L (j + 1) = off L j + (L.getD j []).length := flat_one L h
theorem off_le (L : List (List Int)) (j : Nat) : off L j ≤ L.flatten.length := flat_le L j
theorem flat_at {L : List (List Int)} {j i : Nat} {xs : List Int} {x : Int} (h : L[j]? = some xs) (k : xs[i]? = some x) : L.flatten[off L j + i]? = some x := by
  have hj : j < L.length := by
    rcases Nat.lt_or_ge j L.length with q | q
    · exact q
    · rw [List.getElem?_eq_none q] at h; cases h
  have hi : i < xs.length := by
    rcases Nat.lt_or_ge i xs.length with q | q
    · exact q
    · rw [List.getElem?_eq_none q] at k; cases k
  have e : L.flatten = (L.take j).flatten ++ (xs ++ (L.drop (j + 1)).flatten) := by
    have e2 : L.drop j = xs :: L.drop (j + 1) := by
      rw [List.drop_eq_getElem_cons hj]
      rw [List.getElem?_eq_getElem hj] at h
      cases h
      rfl
    rw [← List.flatten_cons, ← e2, ← List.flatten_append, List.take_append_drop]
  rw [e, List.getElem?_append_right (by unfold off; omega)]
  have : off L j + i - (L.take j).flatten.length = i := by unfold off; omega
  rw [this, List.getElem?_append_left hi, k]
/-- Rows that stand in one block, each behind the one ahead of it. -/
structure Ct (k : IntKind) (e : TypeId) (base : Nat) (w : World) (us : List Value) (L : List (List Int)) (B : Nat) : Prop where
  len : us.length = L.length
  row : ∀ (j : Nat) (u : Value) (xs : List Int), us[j]? = some u → L[j]? = some xs → ∃ A, u = .slice A xs.length xs.length ∧ (A = none → xs.length = 0) ∧ (xs ≠ [] → A = some ⟨B, off L j, none⟩)
  blk : L.flatten ≠ [] → base ≤ B ∧ ∃ cs, Blk w B e cs ∧ ∀ (i : Nat) (x : Int), L.flatten[i]? = some x → cs[i]? = some (.int k x)
  short : ∀ xs ∈ L, xs.length ≤ maxLen
theorem Ct.up {k : IntKind} {e : TypeId} {base : Nat} {w w' : World} {us : List Value} {L : List (List Int)} {B : Nat} (h : Ct k e base w us L B) (u : Up w w') : Ct k e base w' us L B :=
  ⟨h.len, h.row, fun q => by
    obtain ⟨h1, cs, h2, h3⟩ := h.blk q
    exact ⟨h1, cs, h2.up u, h3⟩, h.short⟩
theorem Ct.slices {k : IntKind} {e : TypeId} {base : Nat} {w : World} {us : List Value} {L : List (List Int)} {B : Nat} (h : Ct k e base w us L B) : Slices us := fun u hu => by
  obtain ⟨j, hj, rfl⟩ := List.getElem_of_mem hu
  have hjl : j < L.length := by rw [← h.len]; exact hj
  obtain ⟨A, e, _⟩ := h.row j _ _ (List.getElem?_eq_getElem hj) (List.getElem?_eq_getElem hjl)
  exact ⟨_, _, _, e⟩
theorem add_off (g a b : Nat) : (⟨g, a, none⟩ : Addr).add b = ⟨g, a + b, none⟩ := by unfold Addr.add; split <;> simp_all
theorem Ct.gd {k : IntKind} {e : TypeId} {base : Nat} {w : World} {us : List Value} {L : List (List Int)} {B : Nat} (h : Ct k e base w us L B) : Gd k w us L := by
  refine ⟨h.len, fun j u xs h1 h2 => ?_⟩
  obtain ⟨A, e1, e2, e3⟩ := h.row j u xs h1 h2
  refine ⟨A, xs.length, e1, Nat.le_refl _, h.short xs (List.mem_of_getElem? h2), e2, fun q => ?_⟩
  have hx : xs ≠ [] := fun q2 => q (by rw [q2]; rfl)
  have hf : L.flatten ≠ [] := fun q2 => by
    obtain ⟨x, r, e4⟩ := List.exists_cons_of_ne_nil hx
    have := flat_at (i := 0) (x := x) h2 (by rw [e4]; rfl)
    rw [q2] at this
    simp at this
  obtain ⟨_, cs, hb, hc⟩ := h.blk hf
  refine ⟨_, e3 hx, hb.lt, fun i v hi => ?_⟩
  rw [List.getElem?_map] at hi
  obtain ⟨x, hx1, rfl⟩ := Option.map_eq_some_iff.1 hi
  rw [add_off, hb.cell]
  exact hc _ _ (flat_at h2 hx1)
/-- What is left of the one row, ahead of the x-th. -/
def Lft (base B T o : Nat) (v : Value) : Prop := ∃ A len cap, v = .slice A len cap ∧ len + o = T ∧ len ≤ cap ∧ cap ≤ maxLen ∧ (A = none → cap = 0) ∧ (0 < len → A = some ⟨B, o, none⟩ ∧ base ≤ B)
theorem made_rows (n : Nat) : madeCells #[.slice none 0 0] n = (List.replicate n (Value.slice none 0 0)).toArray := by
  apply Array.ext
  · simp [size_madeCells]
  · intro i h1 h2
    simp [madeCells, Nat.mod_one]

theorem run_cut2_u64 (A : Option Addr) (n c k : Nat) (hk : k ≤ c) (w : World) :
    (Instr.sliceAt 22 (.slice A n c) none (some (.int .i64 (k : Int))) (some (.int .i64 (k : Int)))).run Tryz.prog w = .ok (.slice A k k) w ∧ (Instr.slice 22 (.slice A n c) none (some (.int .i64 (k : Int))) (some (.int .i64 (k : Int)))).run Tryz.prog w = .ok (.slice A k k) w := by
  obtain ⟨i0, z, hi0, hz0, hz1, hz2⟩ := el_u64.ex
  have hel : Tryz.prog.elem 22 = 67 := by kernel_rfl
  have hu : Tryz.prog.underlying 22 = some (.slice (Tryz.prog.elem 22)) := by rw [hel]; exact el_u64.und
  rw [run_sliceAt_slice (h := hu), and_self, run_slice_hm (ht := hu) (h0 := by omega) (h2 := by omega) (h3 := by omega), hel]
  cases A
  · simp [sizeOf, typeInfo, hi0, sliced]
  · rename_i p
    have e0 : p.add 0 = p := Addr.add_zero' p
    simp [sizeOf, typeInfo, hi0, sliced, e0]
theorem run_cut3_u64 (A : Option Addr) (n c k : Nat) (hk : k ≤ n) (w : World) :
    (Instr.sliceAt 22 (.slice A n c) (some (.int .i64 (k : Int))) none none).run Tryz.prog w = .ok (.slice (if c = k then A else A.map (·.add k)) (n - k) (c - k)) w ∧ (Instr.slice 22 (.slice A n c) (some (.int .i64 (k : Int))) none none).run Tryz.prog w = .ok (.slice (if c = k then A else A.map (·.add k)) (n - k) (c - k)) w := by
  obtain ⟨i0, z, hi0, hz0, hz1, hz2⟩ := el_u64.ex
  have hel : Tryz.prog.elem 22 = 67 := by kernel_rfl
  have hu : Tryz.prog.underlying 22 = some (.slice (Tryz.prog.elem 22)) := by rw [hel]; exact el_u64.und
  rw [run_sliceAt_slice (h := hu), and_self, run_slice_l (ht := hu) (h0 := by omega) (h1 := by omega), hel]
  simp [sizeOf, typeInfo, hi0, hz1, sliced]
theorem make_u64 (n : Nat) (hn : n ≤ 1099511627776) (w : World) :
    (Instr.makeSlice 26 (.int .i64 (n : Int)) (.int .i64 (n : Int))).run Tryz.prog w = .ok (.slice (some ⟨w.heap.size, 0, none⟩) n n) (w.alloc (.cells (List.replicate n (Value.slice none 0 0)).toArray 22)) := by
  have := run_make_row' (P := Tryz.prog) 26 22 (.slice none 0 0) 24 Tryz.underlying26 (by kernel_rfl) rfl .i64 .i64 n (by omega) (by omega) w
  rw [made_rows] at this
  exact this
/-- The rows that are laid so far. -/
def Ldu64 (w : World) (n : Nat) (L : List (List Int)) (G B : Nat) (cs : Array Value) (v1 v i : Value) (wr : World) : Prop :=
  ∃ (x : Nat) (us : List Value), x ≤ n ∧ i = .int .i64 x ∧ Blk wr G 22 us.toArray ∧ us.length = n ∧ Lft w.heap.size B L.flatten.length (off L x) v ∧
    (∀ (j : Nat) (u : Value) (xs : List Int), j < x → us[j]? = some u → L[j]? = some xs → ∃ A, u = .slice A xs.length xs.length ∧ (A = none → xs.length = 0) ∧ (xs ≠ [] → A = some ⟨B, off L j, none⟩)) ∧ (L.flatten ≠ [] → Blk wr B 67 cs) ∧ Up w wr
def LdPostu64 (L : List (List Int)) (w : World) (e : Ending) (w' : World) : Prop :=
  ∃ G B us, e = .returned (.slice (some ⟨G, 0, none⟩) L.length L.length) ∧ Blk w' G 22 us.toArray ∧ Ct .u64 67 w.heap.size w' us L B ∧ w.heap.size ≤ G ∧ Up w w'
set_option maxRecDepth 100000 in
set_option maxHeartbeats 4000000 in
theorem laid_u64 (v : Value) (L : List (List Int)) (w : World) (hL : Rw .u64 w v L) (hT : L.flatten.length ≤ 1099511627776) (hN : L.length ≤ 1099511627776) : Calls Tryz.prog 131 #[v] w (LdPostu64 L w) := by
  have HC := Lib.hid (concat_u64 v L w hL hT)
  have HL := Lib.hid hL
  have hmk := make_u64 L.length hN
  obtain ⟨A, c, rfl, hm⟩ := hL.slice
  have HS : Hid (∀ xs ∈ L, xs.length ≤ maxLen) := Lib.hid (fun xs hx => by
    obtain ⟨j, hj, rfl⟩ := List.getElem_of_mem hx
    obtain ⟨p, u, e, hc, hs⟩ := hL.at_ (x := j) hj
    have := hs.max
    simpa [List.getD, List.getElem?_eq_getElem hj] using this)
  generalize hn : L.length = n at *
  have HN := Lib.hid hn
  have HT := Lib.hid hT
  unfold maxLen at hm
  clear hL hn hT
  go_enter Tryz.func131, Tryz.ntmps131
  go_wp2_with (fail)
  refine HC.out.mono ?_
  rintro e w1 ⟨u1, rfl, ho, hz, hU1⟩
  obtain ⟨B, cs, hLf, hcs⟩ : ∃ B cs, Lft w.heap.size B L.flatten.length 0 u1 ∧ (L.flatten ≠ [] → Blk w1 B 67 cs ∧ ∀ (i : Nat) (x : Int), L.flatten[i]? = some x → cs[i]? = some (.int .u64 x)) := by
    obtain ⟨hl, hc⟩ := ho
    rcases hc with ⟨rfl, h0⟩ | ⟨g, cap, cur, rfl, hb, hg, q1, q2, q3, q4⟩
    · exact ⟨0, #[], ⟨none, 0, 0, rfl, by omega, Nat.le_refl _, Nat.zero_le _, fun _ => rfl, fun q => absurd q (by omega)⟩, fun q => absurd (List.eq_nil_of_length_eq_zero h0) q⟩
    · refine ⟨g, cur, ⟨_, _, _, rfl, rfl, q1, q2, fun q => (by cases q), fun _ => ⟨rfl, hb⟩⟩, fun _ => ⟨hg, fun i x hi => ?_⟩⟩
      have h5 : (L.flatten.map (Value.int .u64))[i]? = some (.int .u64 x) := by rw [List.getElem?_map, hi]; rfl
      have hlt : i < L.flatten.length := by
        rcases Nat.lt_or_ge i L.flatten.length with q | q
        · exact q
        · rw [List.getElem?_eq_none q] at hi; cases hi
      rw [← q4, List.getElem?_take, if_pos (by omega)] at h5
      simpa using h5
  have HCS : Hid (L.flatten ≠ [] → ∀ (i : Nat) (x : Int), L.flatten[i]? = some x → cs[i]? = some (.int .u64 x)) := Lib.hid (fun q => (hcs q).2)
  have hB1 : L.flatten ≠ [] → Blk (w1.alloc (.cells (List.replicate n (Value.slice none 0 0)).toArray 22)) B 67 cs := fun q => (hcs q).1.alloc _
  have hG := Blk.new w1 22 (List.replicate n (Value.slice none 0 0)).toArray
  have HU2 := Lib.hid (hU1.alloc (.cells (List.replicate n (Value.slice none 0 0)).toArray 22))
  have HG1 := Lib.hid hU1.size
  have HLf := Lib.hid hLf
  have HG := Lib.hid hG
  have HB1 := Lib.hid hB1
  obtain ⟨A1, l1, c1, rfl, -⟩ := hLf
  clear HC ho hz hU1 hcs hB1 hG
  go_wp2_with (fail)
  go_loopw [3, 15] (fun v i wr => Ldu64 w n L w1.heap.size B cs (.slice A1 l1 c1) v i wr) (fun _ i _ => n - (intOf i).toNat)
  case atStart => exact ⟨0, _, Nat.zero_le _, rfl, HG.out, by simp, HLf.out, fun j u xs q => absurd q (by omega), HB1.out, HU2.out⟩
  case round =>
    obtain ⟨x, us, hx, rfl, hG, hlen, hLf, hrow, hB, hU⟩ := hrel
    by_cases hlt : x < n
    · obtain ⟨p, u, rfl, hcu, hsu⟩ := (HL.out.up hU).at_ hlt
      have hlx : x < L.length := by rw [HN.out]; exact hlt
      have hxu : x < us.length := by omega
      have hstep := off_step hlx
      have hle := off_le L (x + 1)
      have hgx : L[x]? = some (L.getD x []) := by simp [List.getD, List.getElem?_eq_getElem hlx]
      have hT := HT.out
      obtain ⟨A2, len, cap, rfl, hlo, hlc, hcm, hA2, hpos⟩ := hLf
      obtain ⟨Au, cu, rfl, -⟩ := hsu
      have HLf2 : Hid (Lft w.heap.size B L.flatten.length (off L (x + 1)) (.slice (if cap = (L.getD x []).length then A2 else A2.map (·.add (L.getD x []).length)) (len - (L.getD x []).length) (cap - (L.getD x []).length))) := Lib.hid (by
        refine ⟨_, _, _, rfl, by omega, by omega, by omega, fun q => ?_, fun q => ?_⟩
        · split at q
          · have := hA2 q; omega
          · cases A2
            · have := hA2 rfl; omega
            · cases q
        · obtain ⟨e1, e2⟩ := hpos (by omega)
          refine ⟨?_, e2⟩
          rw [if_neg (by omega), e1]
          simp only [Option.map_some, add_off]
          rw [hstep])
      have HROW : Hid (∃ A, Value.slice A2 (L.getD x []).length (L.getD x []).length = .slice A (L.getD x []).length (L.getD x []).length ∧ (A = none → (L.getD x []).length = 0) ∧ (L.getD x [] ≠ [] → A = some ⟨B, off L x, none⟩)) := Lib.hid (by
        refine ⟨A2, rfl, fun q => ?_, fun q => ?_⟩
        · have := hA2 q; omega
        · have := List.length_pos_iff.2 q
          exact (hpos (by omega)).1)
      have hm1 : (L.getD x []).length ≤ len := by omega
      have HGX := Lib.hid hgx
      clear hstep hle hgx hlo hpos hA2 hT
      generalize L.getD x [] = xs at *
      generalize hml : xs.length = m at *
      have HML := Lib.hid hml
      clear hml
      have r1 := fun w => (run_cut2_u64 A2 len cap m (by omega) w).1
      have r2 := fun w => (run_cut2_u64 A2 len cap m (by omega) w).2
      have r3 := fun w => (run_cut3_u64 A2 len cap m hm1 w).1
      have r4 := fun w => (run_cut3_u64 A2 len cap m hm1 w).2
      have hcG := hG.cell x
      rw [List.getElem?_toArray, List.getElem?_eq_getElem hxu] at hcG
      have hfG := hG.frozen x
      have hlG := hG.lt
      have HG := Lib.hid hG
      have HB := Lib.hid hB
      have HU := Lib.hid hU
      have HR := Lib.hid hrow
      have HLN := Lib.hid hlen
      clear hG hB hU hrow hlen
      generalize (if cap = m then A2 else A2.map (·.add m)) = A3 at *
      generalize us[x] = ux at *
      go_wp2_with (fail)
      go_region
      go_wp2
      have hset : (us.toArray.setIfInBounds x (.slice A2 m m)) = (us.set x (.slice A2 m m)).toArray := by simp
      refine ⟨⟨x + 1, us.set x (.slice A2 m m), by omega, by go_num, ?_, by rw [List.length_set]; exact HLN.out, HLf2.out, fun j u ys hj h1 h2 => ?_, fun q => ?_, ((HU.out.setCell (by exact HG1.out) _).drew)⟩, by simp [intOf]; omega⟩
      · rw [← hset]
        exact (HG.out.set_ x _).drew
      · by_cases hjx : j = x
        · subst hjx
          rw [HGX.out] at h2
          cases h2
          rw [List.getElem?_set_self (by rw [HLN.out]; exact hlt)] at h1
          cases h1
          rw [HML.out]
          exact HROW.out
        · rw [List.getElem?_set_ne (fun q => hjx q.symm)] at h1
          exact HR.out j u ys (by omega) h1 h2
      · exact ((HB.out q).far (p := ⟨w1.heap.size, x, none⟩) ((HB.out q).ne_type HG.out (by decide)) _).drew
    · obtain rfl : n = x := by omega
      have HG := Lib.hid hG
      have HB := Lib.hid hB
      have HU := Lib.hid hU
      have HR := Lib.hid hrow
      have HLN := Lib.hid hlen
      clear hG hB hU hrow hlen hLf
      go_wp2
      go_ret
      refine ⟨w1.heap.size, B, us, by rw [HN.out]; rfl, HG.out, ⟨by rw [HLN.out, HN.out], fun j u xs h1 h2 => HR.out j u xs ?_ h1 h2, fun q => ⟨?_, cs, HB.out q, HCS.out q⟩, HS.out⟩, HG1.out, HU.out⟩
      · rw [← HLN.out]
        rcases Nat.lt_or_ge j us.length with q | q
        · exact q
        · rw [List.getElem?_eq_none q] at h1; cases h1
      · obtain ⟨A0, l0, c0, e0, h1, h2, h3, h4, h5⟩ := HLf.out
        cases e0
        exact (h5 (by have := List.length_pos_iff.2 q; omega)).2

theorem run_cut2_int (A : Option Addr) (n c k : Nat) (hk : k ≤ c) (w : World) :
    (Instr.sliceAt 72 (.slice A n c) none (some (.int .i64 (k : Int))) (some (.int .i64 (k : Int)))).run Tryz.prog w = .ok (.slice A k k) w ∧ (Instr.slice 72 (.slice A n c) none (some (.int .i64 (k : Int))) (some (.int .i64 (k : Int)))).run Tryz.prog w = .ok (.slice A k k) w := by
  obtain ⟨i0, z, hi0, hz0, hz1, hz2⟩ := el_int.ex
  have hel : Tryz.prog.elem 72 = 3 := by kernel_rfl
  have hu : Tryz.prog.underlying 72 = some (.slice (Tryz.prog.elem 72)) := by rw [hel]; exact el_int.und
  rw [run_sliceAt_slice (h := hu), and_self, run_slice_hm (ht := hu) (h0 := by omega) (h2 := by omega) (h3 := by omega), hel]
  cases A
  · simp [sizeOf, typeInfo, hi0, sliced]
  · rename_i p
    have e0 : p.add 0 = p := Addr.add_zero' p
    simp [sizeOf, typeInfo, hi0, sliced, e0]
theorem run_cut3_int (A : Option Addr) (n c k : Nat) (hk : k ≤ n) (w : World) :
    (Instr.sliceAt 72 (.slice A n c) (some (.int .i64 (k : Int))) none none).run Tryz.prog w = .ok (.slice (if c = k then A else A.map (·.add k)) (n - k) (c - k)) w ∧ (Instr.slice 72 (.slice A n c) (some (.int .i64 (k : Int))) none none).run Tryz.prog w = .ok (.slice (if c = k then A else A.map (·.add k)) (n - k) (c - k)) w := by
  obtain ⟨i0, z, hi0, hz0, hz1, hz2⟩ := el_int.ex
  have hel : Tryz.prog.elem 72 = 3 := by kernel_rfl
  have hu : Tryz.prog.underlying 72 = some (.slice (Tryz.prog.elem 72)) := by rw [hel]; exact el_int.und
  rw [run_sliceAt_slice (h := hu), and_self, run_slice_l (ht := hu) (h0 := by omega) (h1 := by omega), hel]
  simp [sizeOf, typeInfo, hi0, hz1, sliced]
theorem make_int (n : Nat) (hn : n ≤ 1099511627776) (w : World) :
    (Instr.makeSlice 28 (.int .i64 (n : Int)) (.int .i64 (n : Int))).run Tryz.prog w = .ok (.slice (some ⟨w.heap.size, 0, none⟩) n n) (w.alloc (.cells (List.replicate n (Value.slice none 0 0)).toArray 72)) := by
  have := run_make_row' (P := Tryz.prog) 28 72 (.slice none 0 0) 24 Tryz.underlying28 (by kernel_rfl) rfl .i64 .i64 n (by omega) (by omega) w
  rw [made_rows] at this
  exact this
/-- The rows that are laid so far. -/
def Ldint (w : World) (n : Nat) (L : List (List Int)) (G B : Nat) (cs : Array Value) (v1 v i : Value) (wr : World) : Prop :=
  ∃ (x : Nat) (us : List Value), x ≤ n ∧ i = .int .i64 x ∧ Blk wr G 72 us.toArray ∧ us.length = n ∧ Lft w.heap.size B L.flatten.length (off L x) v ∧
    (∀ (j : Nat) (u : Value) (xs : List Int), j < x → us[j]? = some u → L[j]? = some xs → ∃ A, u = .slice A xs.length xs.length ∧ (A = none → xs.length = 0) ∧ (xs ≠ [] → A = some ⟨B, off L j, none⟩)) ∧ (L.flatten ≠ [] → Blk wr B 3 cs) ∧ Up w wr
def LdPostint (L : List (List Int)) (w : World) (e : Ending) (w' : World) : Prop :=
  ∃ G B us, e = .returned (.slice (some ⟨G, 0, none⟩) L.length L.length) ∧ Blk w' G 72 us.toArray ∧ Ct .i64 3 w.heap.size w' us L B ∧ w.heap.size ≤ G ∧ Up w w'
set_option maxRecDepth 100000 in
set_option maxHeartbeats 4000000 in
theorem laid_int (v : Value) (L : List (List Int)) (w : World) (hL : Rw .i64 w v L) (hT : L.flatten.length ≤ 1099511627776) (hN : L.length ≤ 1099511627776) : Calls Tryz.prog 132 #[v] w (LdPostint L w) := by
  have HC := Lib.hid (concat_int v L w hL hT)
  have HL := Lib.hid hL
  have hmk := make_int L.length hN
  obtain ⟨A, c, rfl, hm⟩ := hL.slice
  have HS : Hid (∀ xs ∈ L, xs.length ≤ maxLen) := Lib.hid (fun xs hx => by
    obtain ⟨j, hj, rfl⟩ := List.getElem_of_mem hx
    obtain ⟨p, u, e, hc, hs⟩ := hL.at_ (x := j) hj
    have := hs.max
    simpa [List.getD, List.getElem?_eq_getElem hj] using this)
  generalize hn : L.length = n at *
  have HN := Lib.hid hn
  have HT := Lib.hid hT
  unfold maxLen at hm
  clear hL hn hT
  go_enter Tryz.func132, Tryz.ntmps132
  go_wp2_with (fail)
  refine HC.out.mono ?_
  rintro e w1 ⟨u1, rfl, ho, hz, hU1⟩
  obtain ⟨B, cs, hLf, hcs⟩ : ∃ B cs, Lft w.heap.size B L.flatten.length 0 u1 ∧ (L.flatten ≠ [] → Blk w1 B 3 cs ∧ ∀ (i : Nat) (x : Int), L.flatten[i]? = some x → cs[i]? = some (.int .i64 x)) := by
    obtain ⟨hl, hc⟩ := ho
    rcases hc with ⟨rfl, h0⟩ | ⟨g, cap, cur, rfl, hb, hg, q1, q2, q3, q4⟩
    · exact ⟨0, #[], ⟨none, 0, 0, rfl, by omega, Nat.le_refl _, Nat.zero_le _, fun _ => rfl, fun q => absurd q (by omega)⟩, fun q => absurd (List.eq_nil_of_length_eq_zero h0) q⟩
    · refine ⟨g, cur, ⟨_, _, _, rfl, rfl, q1, q2, fun q => (by cases q), fun _ => ⟨rfl, hb⟩⟩, fun _ => ⟨hg, fun i x hi => ?_⟩⟩
      have h5 : (L.flatten.map (Value.int .i64))[i]? = some (.int .i64 x) := by rw [List.getElem?_map, hi]; rfl
      have hlt : i < L.flatten.length := by
        rcases Nat.lt_or_ge i L.flatten.length with q | q
        · exact q
        · rw [List.getElem?_eq_none q] at hi; cases hi
      rw [← q4, List.getElem?_take, if_pos (by omega)] at h5
      simpa using h5
  have HCS : Hid (L.flatten ≠ [] → ∀ (i : Nat) (x : Int), L.flatten[i]? = some x → cs[i]? = some (.int .i64 x)) := Lib.hid (fun q => (hcs q).2)
  have hB1 : L.flatten ≠ [] → Blk (w1.alloc (.cells (List.replicate n (Value.slice none 0 0)).toArray 72)) B 3 cs := fun q => (hcs q).1.alloc _
  have hG := Blk.new w1 72 (List.replicate n (Value.slice none 0 0)).toArray
  have HU2 := Lib.hid (hU1.alloc (.cells (List.replicate n (Value.slice none 0 0)).toArray 72))
  have HG1 := Lib.hid hU1.size
  have HLf := Lib.hid hLf
  have HG := Lib.hid hG
  have HB1 := Lib.hid hB1
  obtain ⟨A1, l1, c1, rfl, -⟩ := hLf
  clear HC ho hz hU1 hcs hB1 hG
  go_wp2_with (fail)
  go_loopw [3, 15] (fun v i wr => Ldint w n L w1.heap.size B cs (.slice A1 l1 c1) v i wr) (fun _ i _ => n - (intOf i).toNat)
  case atStart => exact ⟨0, _, Nat.zero_le _, rfl, HG.out, by simp, HLf.out, fun j u xs q => absurd q (by omega), HB1.out, HU2.out⟩
  case round =>
    obtain ⟨x, us, hx, rfl, hG, hlen, hLf, hrow, hB, hU⟩ := hrel
    by_cases hlt : x < n
    · obtain ⟨p, u, rfl, hcu, hsu⟩ := (HL.out.up hU).at_ hlt
      have hlx : x < L.length := by rw [HN.out]; exact hlt
      have hxu : x < us.length := by omega
      have hstep := off_step hlx
      have hle := off_le L (x + 1)
      have hgx : L[x]? = some (L.getD x []) := by simp [List.getD, List.getElem?_eq_getElem hlx]
      have hT := HT.out
      obtain ⟨A2, len, cap, rfl, hlo, hlc, hcm, hA2, hpos⟩ := hLf
      obtain ⟨Au, cu, rfl, -⟩ := hsu
      have HLf2 : Hid (Lft w.heap.size B L.flatten.length (off L (x + 1)) (.slice (if cap = (L.getD x []).length then A2 else A2.map (·.add (L.getD x []).length)) (len - (L.getD x []).length) (cap - (L.getD x []).length))) := Lib.hid (by
        refine ⟨_, _, _, rfl, by omega, by omega, by omega, fun q => ?_, fun q => ?_⟩
        · split at q
          · have := hA2 q; omega
          · cases A2
            · have := hA2 rfl; omega
            · cases q
        · obtain ⟨e1, e2⟩ := hpos (by omega)
          refine ⟨?_, e2⟩
          rw [if_neg (by omega), e1]
          simp only [Option.map_some, add_off]
          rw [hstep])
      have HROW : Hid (∃ A, Value.slice A2 (L.getD x []).length (L.getD x []).length = .slice A (L.getD x []).length (L.getD x []).length ∧ (A = none → (L.getD x []).length = 0) ∧ (L.getD x [] ≠ [] → A = some ⟨B, off L x, none⟩)) := Lib.hid (by
        refine ⟨A2, rfl, fun q => ?_, fun q => ?_⟩
        · have := hA2 q; omega
        · have := List.length_pos_iff.2 q
          exact (hpos (by omega)).1)
      have hm1 : (L.getD x []).length ≤ len := by omega
      have HGX := Lib.hid hgx
      clear hstep hle hgx hlo hpos hA2 hT
      generalize L.getD x [] = xs at *
      generalize hml : xs.length = m at *
      have HML := Lib.hid hml
      clear hml
      have r1 := fun w => (run_cut2_int A2 len cap m (by omega) w).1
      have r2 := fun w => (run_cut2_int A2 len cap m (by omega) w).2
      have r3 := fun w => (run_cut3_int A2 len cap m hm1 w).1
      have r4 := fun w => (run_cut3_int A2 len cap m hm1 w).2
      have hcG := hG.cell x
      rw [List.getElem?_toArray, List.getElem?_eq_getElem hxu] at hcG
      have hfG := hG.frozen x
      have hlG := hG.lt
      have HG := Lib.hid hG
      have HB := Lib.hid hB
      have HU := Lib.hid hU
      have HR := Lib.hid hrow
      have HLN := Lib.hid hlen
      clear hG hB hU hrow hlen
      generalize (if cap = m then A2 else A2.map (·.add m)) = A3 at *
      generalize us[x] = ux at *
      go_wp2_with (fail)
      go_region
      go_wp2
      have hset : (us.toArray.setIfInBounds x (.slice A2 m m)) = (us.set x (.slice A2 m m)).toArray := by simp
      refine ⟨⟨x + 1, us.set x (.slice A2 m m), by omega, by go_num, ?_, by rw [List.length_set]; exact HLN.out, HLf2.out, fun j u ys hj h1 h2 => ?_, fun q => ?_, ((HU.out.setCell (by exact HG1.out) _).drew)⟩, by simp [intOf]; omega⟩
      · rw [← hset]
        exact (HG.out.set_ x _).drew
      · by_cases hjx : j = x
        · subst hjx
          rw [HGX.out] at h2
          cases h2
          rw [List.getElem?_set_self (by rw [HLN.out]; exact hlt)] at h1
          cases h1
          rw [HML.out]
          exact HROW.out
        · rw [List.getElem?_set_ne (fun q => hjx q.symm)] at h1
          exact HR.out j u ys (by omega) h1 h2
      · exact ((HB.out q).far (p := ⟨w1.heap.size, x, none⟩) ((HB.out q).ne_type HG.out (by decide)) _).drew
    · obtain rfl : n = x := by omega
      have HG := Lib.hid hG
      have HB := Lib.hid hB
      have HU := Lib.hid hU
      have HR := Lib.hid hrow
      have HLN := Lib.hid hlen
      clear hG hB hU hrow hlen hLf
      go_wp2
      go_ret
      refine ⟨w1.heap.size, B, us, by rw [HN.out]; rfl, HG.out, ⟨by rw [HLN.out, HN.out], fun j u xs h1 h2 => HR.out j u xs ?_ h1 h2, fun q => ⟨?_, cs, HB.out q, HCS.out q⟩, HS.out⟩, HG1.out, HU.out⟩
      · rw [← HLN.out]
        rcases Nat.lt_or_ge j us.length with q | q
        · exact q
        · rw [List.getElem?_eq_none q] at h1; cases h1
      · obtain ⟨A0, l0, c0, e0, h1, h2, h3, h4, h5⟩ := HLf.out
        cases e0
        exact (h5 (by have := List.length_pos_iff.2 q; omega)).2

end Go.Proofs.YtanhhkdoejnpiaaGreat.G
/-! Of stage 15 -/
namespace Go.Proofs.YtanhhkdoejnpiaaGreat.G
open Go.Joins Go.ChangeShapes Go.WideShapes Go.ChangeAt Go.RowKit Go.Deep Go.Shelf Go.Maps
set_option linter.unusedVariables false
set_option linter.unusedSimpArgs false

/-- A graph that is all a call's own: its nodes, their fields in one block, the threads' handles, in one block too. -/
structure OwnG (base : Nat) (w : World) (vn vs : Value) (g : Gr) (us us2 : List Value) (BF GS BS : Nat) : Prop where
  nodes : w.ownsRow base 71 4 vn g.1.length (nvs g.1 us)
  flds : Ct .u64 67 base w us (g.1.map (·.2)) BF
  val : vs = .slice (some ⟨GS, 0, none⟩) g.2.length g.2.length
  grid : Blk w GS 72 us2.toArray
  rows : Ct .i64 3 base w us2 g.2 BS
  ge : base ≤ GS
  few : g.2.length ≤ maxLen
theorem OwnG.up {base : Nat} {w w' : World} {vn vs : Value} {g : Gr} {us us2 : List Value} {BF GS BS : Nat} (h : OwnG base w vn vs g us us2 BF GS BS) (u : Up w w') : OwnG base w' vn vs g us us2 BF GS BS :=
  ⟨own_up h.nodes u, h.flds.up u, h.val, h.grid.up u, h.rows.up u, h.ge, h.few⟩
theorem ns_of_own {base : Nat} {w : World} {v : Value} {ns : List Nd} {us : List Value} (h : w.ownsRow base 71 4 v ns.length (nvs ns us)) (hg : Gd .u64 w us (ns.map (·.2))) : NsW w v us ns := by
  obtain ⟨A, c, rfl⟩ := own_slice h
  obtain ⟨_, h2, h3, h4, h5⟩ := rv_of_own h (nvs_len ns us (by rw [hg.1, List.length_map]))
  exact ⟨A, c, rfl, h2, h3, h4, h5, hg⟩
theorem OwnG.ns {base : Nat} {w : World} {vn vs : Value} {g : Gr} {us us2 : List Value} {BF GS BS : Nat} (h : OwnG base w vn vs g us us2 BF GS BS) : NsW w vn us g.1 := ns_of_own h.nodes h.flds.gd
theorem OwnG.rw_ {base : Nat} {w : World} {vn vs : Value} {g : Gr} {us us2 : List Value} {BF GS BS : Nat} (h : OwnG base w vn vs g us us2 BF GS BS) : RwW .i64 w vs us2 g.2 :=
  ⟨_, _, h.val, Nat.le_refl _, h.few, fun q => (by cases q), rv_of_blk h.grid (fun j v hj => by simpa using hj), h.rows.gd⟩
theorem OwnG.gr {base : Nat} {w : World} {vn vs : Value} {g : Gr} {us us2 : List Value} {BF GS BS : Nat} (h : OwnG base w vn vs g us us2 BF GS BS) : GrV w (.agg #[vn, vs]) g := ⟨_, _, rfl, ⟨us, h.ns⟩, us2, h.rw_⟩

theorem nvs_set : ∀ (ns : List Nd) (us : List Value) (x : Nat) (u : Value), us.length = ns.length → nvs ns (us.set x u) = (nvs ns us).set (x * 4 + 3) u
  | [], us, x, u, _ => rfl
  | n :: r, [], x, u, h => by cases h
  | n :: r, v :: us, 0, u, h => by simp [nvs]
  | n :: r, v :: us, x + 1, u, h => by
    rw [show (x + 1) * 4 + 3 = x * 4 + 3 + 1 + 1 + 1 + 1 from by omega]
    simp [nvs, nvs_set r us x u (by simpa using h)]
theorem grownBy_setAt (w : World) (G i : Nat) (u : Value) : w.grownBy (w.setCell ⟨G, i, none⟩ u) (some G) :=
  ⟨rfl, rfl, rfl, by simp, fun k _ hk => heap_setCell_other w ⟨G, i, none⟩ k u (fun e => hk (by simp [e]))⟩
theorem own_far {w : World} {n₀ : Nat} {e t : TypeId} {size n b : Nat} {v : Value} {xs : List Value} {cs : Array Value} (h : w.ownsRow n₀ e size v n xs) (hb : Blk w b t cs) (hne : e ≠ t) (i : Nat) (u : Value) : (w.setCell ⟨b, i, none⟩ u).ownsRow n₀ e size v n xs :=
  World.ownsRow.kept h (grownBy_setAt _ b _ _) (.inr (own_row_ne h hb hne).symm)
theorem Ct.far {k : IntKind} {e t : TypeId} {base b : Nat} {w : World} {us : List Value} {L : List (List Int)} {B : Nat} {cs : Array Value} (h : Ct k e base w us L B) (hb : Blk w b t cs) (hne : e ≠ t) (i : Nat) (u : Value) : Ct k e base (w.setCell ⟨b, i, none⟩ u) us L B :=
  ⟨h.len, h.row, fun q => by
    obtain ⟨h1, ds, h2, h3⟩ := h.blk q
    exact ⟨h1, ds, h2.far (p := ⟨b, i, none⟩) (h2.ne_type hb hne) u, h3⟩, h.short⟩
/-- A store into a block of another kind. -/
theorem OwnG.far {base : Nat} {w : World} {vn vs : Value} {g : Gr} {us us2 : List Value} {BF GS BS b : Nat} {t : TypeId} {cs : Array Value} (h : OwnG base w vn vs g us us2 BF GS BS) (hb : Blk w b t cs) (h1 : 71 ≠ t) (h2 : 67 ≠ t) (h3 : 72 ≠ t) (h4 : 3 ≠ t) (i : Nat) (u : Value) :
    OwnG base (w.setCell ⟨b, i, none⟩ u) vn vs g us us2 BF GS BS :=
  ⟨own_far h.nodes hb h1 i u, h.flds.far hb h2 i u, h.val, h.grid.far (p := ⟨b, i, none⟩) (h.grid.ne_type hb h3) u, h.rows.far hb h4 i u, h.ge, h.few⟩
/-- How much there is at most. -/
structure FitG (g : Gr) : Prop where
  n : g.1.length ≤ 1048576
  f : (g.1.map (·.2)).flatten.length ≤ 1099511627776
  s : g.2.length ≤ 1099511627776
  h : g.2.flatten.length ≤ 1099511627776
def Fl1 (w w1 : World) (n F : Nat) (us : List Value) (i : Value) (wr : World) : Prop := ∃ (x : Nat) (vs : List Value), x ≤ n ∧ i = .int .i64 x ∧ Blk wr F 22 vs.toArray ∧ vs.length = n ∧ (∀ j, j < x → vs[j]? = us[j]?) ∧ Up w1 wr
def Fl2 (w w2 : World) (n : Nat) (v : Value) (ns : List Nd) (us' : List Value) (i : Value) (wr : World) : Prop := ∃ (x : Nat) (vs : List Value), x ≤ n ∧ i = .int .i64 x ∧ wr.ownsRow w.heap.size 71 4 v n (nvs ns vs) ∧ vs.length = n ∧ (∀ j, j < x → vs[j]? = us'[j]?) ∧ Up w wr ∧ (∀ g t cs, 71 ≠ t → Blk w2 g t cs → Blk wr g t cs)
def CpPost (g : Gr) (w : World) (e : Ending) (w' : World) : Prop :=
  ∃ vn vs us us2 BF GS BS, e = .returned (.agg #[vn, vs]) ∧ OwnG w.heap.size w' vn vs g us us2 BF GS BS ∧ Up w w'
theorem take_same {α : Type} {xs ys : List α} {n : Nat} (h1 : xs.length = n) (h2 : ys.length = n) (h : ∀ j, j < n → xs[j]? = ys[j]?) : xs = ys := by
  apply List.ext_getElem?
  intro j
  rcases Nat.lt_or_ge j n with q | q
  · exact h j q
  · rw [List.getElem?_eq_none (by omega), List.getElem?_eq_none (by omega)]
set_option maxRecDepth 100000 in
set_option maxHeartbeats 4000000 in
theorem copied_any (v : Value) (g : Gr) (w : World) (hg : GrV w v g) (hF : FitG g) : Calls Tryz.prog 97 #[v] w (CpPost g w) := by
  obtain ⟨va, vb, rfl, ⟨us, hns⟩, hrw⟩ := hg
  have hns0 := hns
  obtain ⟨A, c, rfl, hc1, hc2, hA, hrv, hgd⟩ := hns
  have hul : us.length = g.1.length := by rw [hgd.1, List.length_map]
  have HC := Lib.hid (fun w' (u : Up w w') => clone_node A g.1.length c (nvs g.1 us) w' hA hc1 (nvs_len _ _ hul) (hrv.up u) (nvs_one _ _ hgd.slices) (by have := hF.n; omega))
  have hmk := make_u64 g.1.length (by have := hF.n; omega)
  have HGD := Lib.hid hgd
  have HRW := Lib.hid hrw
  have HF := Lib.hid hF
  have hn20 := hF.n
  have HUL := Lib.hid hul
  generalize hn : g.1.length = n at *
  have HN := Lib.hid hn
  clear hn hns0 hrv hgd hrw hF hA hc1 hc2 hul
  go_enter Tryz.func97, Tryz.ntmps97
  go_wp2_with (fail)
  refine (HC.out _ (((Up.refl w).alloc _).alloc _)).mono ?_
  rintro e w1 ⟨v1, rfl, ho0, hU0⟩
  have hb1 : Blk w1 w.heap.size 30 #[.slice A n c, vb] := ((Blk.new w _ _).alloc _).up hU0
  have hb2 : Blk w1 (w.heap.size + 1) 30 #[.slice none 0 0, .slice none 0 0] := (Blk.new' _ (by simp) _ _).up hU0
  have hU1 := (((Up.refl w).alloc (.cells #[.slice A n c, vb] 30)).alloc (.cells #[.slice none 0 0, .slice none 0 0] 30)).trans hU0
  have ho1 := own_le ho0 (n₁ := w.heap.size) (by simp; omega)
  have hc1 := hb1.cell
  have hlt1 := hb1.lt
  have HNS : Hid (NsW w1 v1 us g.1) := Lib.hid (ns_of_own (by rw [HN.out]; exact ho1) (HGD.out.up hU1))
  have HO1 := Lib.hid ho1
  obtain ⟨A1, c1, rfl⟩ := own_slice ho1
  have HB1 := Lib.hid hb1
  have HB2 := Lib.hid hb2
  have HU1 := Lib.hid hU1
  clear HC ho0 ho1 hb1 hb2 hU0 hU1
  go_wp2_with (fail)
  go_loopw [17] (fun i wr => Fl1 w w1 n w1.heap.size us i wr) (fun i _ => n - (intOf i).toNat)
  case atStart => exact ⟨0, _, Nat.zero_le _, rfl, Blk.new _ _ _, by simp, fun j q => absurd q (by omega), (Up.refl _).alloc _⟩
  case round =>
    obtain ⟨x, vs, hx, rfl, hF2, hvl, hvs, hU⟩ := hrel
    by_cases hlt : x < n
    · obtain ⟨p, u, rfl, hux, ⟨hn0, hn1, hn2, hn3⟩, hsu⟩ := (HNS.out.up hU).at_ hlt
      have hp := lt_of_cell hn0
      obtain ⟨Au, cu, rfl, -⟩ := hsu
      have hF1 := (hF2.alloc (.cells #[.int .i64 (g.1.getD x ((0, 0, 0), [])).1.1, .int .i64 (g.1.getD x ((0, 0, 0), [])).1.2.1, .int .u64 (g.1.getD x ((0, 0, 0), [])).1.2.2, .slice Au (g.1.getD x ((0, 0, 0), [])).2.length cu] 71))
      have hcF := hF1.cell x
      have hxv : x < vs.length := by omega
      rw [List.getElem?_toArray, List.getElem?_eq_getElem hxv] at hcF
      have hfF := hF1.frozen x
      have hlF := hF1.lt
      have HF1 := Lib.hid hF1
      have HVL := Lib.hid hvl
      have HVS := Lib.hid hvs
      have HUX := Lib.hid hux
      have HU := Lib.hid hU
      clear hF2 hF1 hvl hvs hux hU
      generalize g.1.getD x ((0, 0, 0), []) = nd at *
      generalize vs[x] = vx at *
      generalize nd.2.length = ln at *
      go_wp2
      have hset : (vs.toArray.setIfInBounds x (.slice Au ln cu)) = (vs.set x (.slice Au ln cu)).toArray := by simp
      refine ⟨⟨x + 1, vs.set x (.slice Au ln cu), by omega, by go_num, by rw [← hset]; exact HF1.out.set_ x _, by rw [List.length_set]; exact HVL.out, fun j hj => ?_, (HU.out.alloc _).setCell (Nat.le_refl _) _⟩, by simp [intOf]; omega⟩
      by_cases hjx : j = x
      · subst hjx
        rw [List.getElem?_set_self (by rw [HVL.out]; exact hlt), HUX.out]
      · rw [List.getElem?_set_ne (fun q => hjx q.symm)]
        exact HVS.out j (by omega)
    · obtain rfl : n = x := by omega
      have e : vs = us := take_same hvl (by rw [HUL.out]) hvs
      subst e
      have HLD := Lib.hid (laid_u64 (.slice (some ⟨w1.heap.size, 0, none⟩) n n) (g.1.map (·.2)) wr ⟨vs, some ⟨w1.heap.size, 0, none⟩, n, by rw [List.length_map, HN.out], by rw [List.length_map, HN.out]; exact Nat.le_refl _, by unfold maxLen; omega, fun q => (by cases q), rv_of_blk hF2 (fun j v hj => by simpa using hj), HGD.out.up (HU1.out.trans hU)⟩ HF.out.f (by rw [List.length_map, HN.out]; omega))
      have HU := Lib.hid hU
      clear hU hF2 hvs
      go_wp2_with (fail)
      refine HLD.out.mono ?_
      rintro e w2 ⟨G, B, us', rfl, hG, hct, hGe, hU2⟩
      rw [List.length_map, HN.out]
      have HU2 := Lib.hid ((HU1.out.trans HU.out).trans hU2)
      have hu12 := HU.out.trans hU2
      have ho2 := own_up HO1.out hu12
      have hus : us'.length = n := by rw [hct.len, List.length_map, HN.out]
      have hcb := (HB1.out.up hu12).cell
      have hlb := (HB1.out.up hu12).lt
      have HG := Lib.hid hG
      have HCT := Lib.hid hct
      have HO2 := Lib.hid ho2
      have HB1' := Lib.hid (HB1.out.up hu12)
      have HB2' := Lib.hid (HB2.out.up hu12)
      have HUS := Lib.hid hus
      clear hG hct hU2 hu12 ho2 HLD hus hcb hlb hc1 hlt1
      go_wp2_with (fail)
      go_loopw [31] (fun i wr => Fl2 w w2 n (.slice A1 n c1) g.1 us' i wr) (fun i _ => n - (intOf i).toNat)
      case atStart => exact ⟨0, _, Nat.zero_le _, rfl, HO2.out, HUL.out, fun j q => absurd q (by omega), HU2.out, fun g t cs _ h => h⟩
      case round =>
        rename World => w3
        obtain ⟨x, vs2, hx, rfl, ho3, hvl, hvs, hU, hK⟩ := hrel
        by_cases hlt : x < n
        · have hG3 := hK _ _ _ (by decide) HG.out
          have hcG := hG3.cell x
          have hxu : x < us'.length := by rw [HUS.out]; exact hlt
          rw [List.getElem?_toArray, List.getElem?_eq_getElem hxu] at hcG
          have hgr : (g.1.map (·.2))[x]? = some ((g.1.map (·.2)).getD x []) := by
            have : x < (g.1.map (·.2)).length := by rw [List.length_map, HN.out]; exact hlt
            simp [List.getD, List.getElem?_eq_getElem this]
          obtain ⟨A3, e3, -⟩ := HCT.out.row x _ _ (List.getElem?_eq_getElem hxu) hgr
          have HU3 : Hid (us'[x]? = some (.slice A3 ((g.1.map (·.2)).getD x []).length ((g.1.map (·.2)).getD x []).length)) := Lib.hid (by rw [← e3]; exact List.getElem?_eq_getElem hxu)
          rw [e3] at hcG
          have ho3' := ho3
          obtain ⟨hol, hoc⟩ := ho3'
          rcases hoc with ⟨q, q2⟩ | ⟨gN, cap, cur, e4, hb4, hg4, h5, h6, h7, h8⟩
          · omega
          cases e4
          have hxv : x < vs2.length := by omega
          have hxn : x < g.1.length := by rw [HN.out]; exact hlt
          have hat := nvs_at g.1 vs2 x g.1[x] vs2[x] (List.getElem?_eq_getElem hxn) (List.getElem?_eq_getElem hxv)
          have hcN : w3.cell? ⟨gN, x * 4 + 3, none⟩ = some vs2[x] := by
            rw [cell_of_row w3 gN _ cur _ (0, 0) hg4]
            have := hat.2.2.2
            rw [← h8, List.getElem?_take, if_pos (by omega)] at this
            simpa using this
          have hfN : w3.frozen? ⟨gN, x * 4 + 3, none⟩ = false := World.ownsRow.frozenAt ho3 _
          have hlN := lt_of_cell hcN
          obtain ⟨p, hp⟩ : ∃ p : Addr, p = ⟨gN, 0, none⟩ := ⟨_, rfl⟩
          have hpx : (⟨(p.add (x * 4)).block, (p.add (x * 4)).off + 3, none⟩ : Addr) = ⟨gN, x * 4 + 3, none⟩ := by rw [hp, nxt_add3, add_zero']
          rw [← hpx] at hcN hfN
          have hpb : (p.add (x * 4)).block < w3.heap.size := by rw [hp, block_of_add]; exact hlN
          have HPX := Lib.hid hpx
          have HP := Lib.hid hp
          have HO3 := Lib.hid ho3
          have HVL := Lib.hid hvl
          have HVS := Lib.hid hvs
          have HU := Lib.hid hU
          have HK := Lib.hid hK
          have HG4 : Hid (Blk w3 gN 71 cur) := Lib.hid hg4
          have HB4 := Lib.hid hb4
          rw [← hp]
          clear hpx hp ho3 hvl hvs hU hK hG3 hg4 h5 h6 h7 h8 hol hat e3 hgr hb4 hxn
          generalize ((g.1.map (·.2)).getD x []).length = ln at *
          generalize vs2[x] = vx at *
          go_wp2
          rw [HPX.out, HP.out]
          refine ⟨⟨x + 1, vs2.set x (.slice A3 ln ln), by omega, by go_num, ?_, by rw [List.length_set]; exact HVL.out, fun j hj => ?_, HU.out.setCell HB4.out _, fun g' t' cs' hne hb => ?_⟩, by simp [intOf]; omega⟩
          · rw [nvs_set _ _ _ _ (by rw [HVL.out, HN.out])]
            exact (World.ownsRow.stored HO3.out _ _).1
          · by_cases hjx : j = x
            · subst hjx
              rw [List.getElem?_set_self (by rw [HVL.out]; exact hlt), HU3.out]
            · rw [List.getElem?_set_ne (fun q => hjx q.symm)]
              exact HVS.out j (by omega)
          · have hb3 := HK.out g' t' cs' hne hb
            exact hb3.far (p := ⟨gN, x * 4 + 3, none⟩) (hb3.ne_type HG4.out (fun q => hne q.symm)) _
        · obtain rfl : n = x := by omega
          have e : vs2 = us' := take_same hvl HUS.out hvs
          subst e
          have hba := hK _ _ _ (by decide) HB1'.out
          have hbr := hK _ _ _ (by decide) HB2'.out
          have HLI := Lib.hid (laid_int vb g.2 w3 (HRW.out.up hU) HF.out.h HF.out.s)
          have hcb := hba.cell
          have hlb := hba.lt
          have HBR := Lib.hid hbr
          have HCT3 : Hid (Ct .u64 67 w.heap.size w3 vs2 (g.1.map (·.2)) B) := Lib.hid ⟨HCT.out.len, HCT.out.row, fun q => by
            obtain ⟨h1, cs, h2, h3⟩ := HCT.out.blk q
            exact ⟨Nat.le_trans (Nat.le_trans HU1.out.size HU.out.size) h1, cs, hK _ _ _ (by decide) h2, h3⟩, HCT.out.short⟩
          have HO3 := Lib.hid ho3
          have HU3 := Lib.hid hU
          clear ho3 hK hU hvs hvl hba hbr
          go_wp2_with (fail)
          refine HLI.out.mono ?_
          rintro e w4 ⟨GS, BS, us2, rfl, hG4, hct4, hGe4, hU4⟩
          have hb4 := HBR.out.up hU4
          have hc4 := hb4.cell
          have hf4 := hb4.frozen
          have hl4 := hb4.lt
          have HO4 := Lib.hid (own_up HO3.out hU4)
          have HCT4 := Lib.hid (HCT3.out.up hU4)
          have HB4 := Lib.hid hb4
          have HG4 := Lib.hid hG4
          have HC4 := Lib.hid hct4
          have HU4 := Lib.hid hU4
          have HU5 := Lib.hid (HU3.out.trans hU4)
          clear hb4 hG4 hct4 hU4 HLI
          have HGe : Hid (w.heap.size ≤ GS) := Lib.hid (Nat.le_trans HU3.out.size hGe4)
          clear hGe4
          go_wp2_with (fail)
          have HBX : Blk ((w4.setCell ⟨w.heap.size + 1, 0, none⟩ (Value.slice A1 n c1)).setCell ⟨w.heap.size + 1, 1, none⟩ (Value.slice (some ⟨GS, 0, none⟩) g.2.length g.2.length)) (w.heap.size + 1) 30 #[Value.slice A1 n c1, Value.slice (some ⟨GS, 0, none⟩) g.2.length g.2.length] := by
            have := (HB4.out.set_ 0 (Value.slice A1 n c1)).set_ 1 (Value.slice (some ⟨GS, 0, none⟩) g.2.length g.2.length)
            simpa using this
          refine bodyPost_ret (results_cell_row rfl _ _ (w.heap.size + 1) 30 _ _ _ rfl HBX Tryz.underlying30 rfl (by kernel_rfl)) rfl ?_
          have hO : OwnG w.heap.size w4 (.slice A1 n c1) (.slice (some ⟨GS, 0, none⟩) g.2.length g.2.length) g vs2 us2 B GS BS := by
            refine ⟨by rw [HN.out]; exact HO4.out, HCT4.out, rfl, HG4.out, ?_, HGe.out, Nat.le_trans HF.out.s (by unfold maxLen; omega)⟩
            exact ⟨HC4.out.len, HC4.out.row, fun q => by
              obtain ⟨h1, cs, h2, h3⟩ := HC4.out.blk q
              exact ⟨Nat.le_trans HU3.out.size h1, cs, h2, h3⟩, HC4.out.short⟩
          exact ⟨_, _, vs2, us2, B, GS, BS, rfl, (hO.far HB4.out (by decide) (by decide) (by decide) (by decide) 0 _).far (HB4.out.set_ 0 _) (by decide) (by decide) (by decide) (by decide) 1 _, (HU5.out.setCell (by simp) _).setCell (by simp) _⟩

end Go.Proofs.YtanhhkdoejnpiaaGreat.G
