/- Rows of numbers of either kind, graphs: contracts. -/
import Derived.Test.YtddoljfkbkbfjaaGreatKa
import Derived.ArgAppend
import Derived.Lib.SliceRun
import Derived.Lib.AppendZerosOnto
/-! Of stage 15 -/
namespace Go.Proofs.YtddoljfkbkbfjaaGreat.G
open Go.Joins Go.ChangeShapes Go.WideShapes Go.ChangeAt Go.RowKit Go.Deep Go.Shelf Go.Maps
set_option linter.unusedVariables false
set_option linter.unusedSimpArgs false

/-- A node: its head, its fields. -/
abbrev Nd := (Int × Int × Int) × List Int
/-- A graph: its nodes, the threads' handles. -/
abbrev Gr := List Nd × List (List Int)

/-- Values stand in a row at an address. -/
def RV (w : World) (A : Option Addr) (vs : List Value) : Prop := vs ≠ [] → ∃ p, A = some p ∧ p.block < w.heap.size ∧ ∀ j v, vs[j]? = some v → w.cell? (p.add j) = some v
theorem RV.up {w w' : World} {A : Option Addr} {vs : List Value} (h : RV w A vs) (k : Up w w') : RV w' A vs := fun q => by
  obtain ⟨p, e, hp, hc⟩ := h q
  exact ⟨p, e, Nat.lt_of_lt_of_le hp k.size, fun j v hj => (Below.cell k (by rw [block_of_add]; exact hp)).trans (hc j v hj)⟩
theorem RV.nil (w : World) (A : Option Addr) : RV w A [] := fun q => absurd rfl q
theorem RV.at_ {w : World} {A : Option Addr} {vs : List Value} (h : RV w A vs) {j : Nat} (hj : j < vs.length) : ∃ p, A = some p ∧ w.cell? (p.add j) = some vs[j] := by
  obtain ⟨p, e, hp, hc⟩ := h (fun q => by rw [q] at hj; cases hj)
  exact ⟨p, e, hc j _ (List.getElem?_eq_getElem hj)⟩
theorem RV.kp {S : List Nat} {w w' : World} {A : Option Addr} {vs : List Value} (h : RV w A vs) (k : Kp S w w') (hS : ∀ p, A = some p → vs ≠ [] → p.block ∉ S) : RV w' A vs := fun q => by
  obtain ⟨p, e, hp, hc⟩ := h q
  refine ⟨p, e, Nat.lt_of_lt_of_le hp k.size, fun j v hj => ?_⟩
  have := hc j v hj
  unfold World.cell? at this ⊢
  rw [block_of_add] at this ⊢
  rw [k.block p.block hp (hS p e q)]
  exact this
theorem rv_of_blk {w : World} {g : Nat} {t : TypeId} {cs : Array Value} {vs : List Value} (h : Blk w g t cs) (hv : ∀ (j : Nat) (v : Value), vs[j]? = some v → cs[j]? = some v) : RV w (some ⟨g, 0, none⟩) vs :=
  fun _ => ⟨_, rfl, h.lt, fun j v hj => by rw [add_zero', h.cell j]; exact hv j v hj⟩
theorem rv_of_own {w : World} {n₀ : Nat} {e : TypeId} {size n : Nat} {A : Option Addr} {k c : Nat} {vs : List Value} (h : w.ownsRow n₀ e size (.slice A k c) n vs) (hl : vs.length = n * size) : k = n ∧ n ≤ c ∧ c ≤ maxLen ∧ (A = none → c = 0) ∧ RV w A vs := by
  rcases h.2 with ⟨e1, h0⟩ | ⟨g, cap, cur, e1, hb, hg, h1, h2, h3, h4⟩
  · cases e1
    subst h0
    refine ⟨rfl, Nat.zero_le _, Nat.zero_le _, fun _ => rfl, fun q => absurd (List.eq_nil_of_length_eq_zero (by omega)) q⟩
  · cases e1
    refine ⟨rfl, h1, h2, fun q => (by cases q), rv_of_blk hg fun j v hj => ?_⟩
    have hlt : j < vs.length := by
      rcases Nat.lt_or_ge j vs.length with q | q
      · exact q
      · rw [List.getElem?_eq_none q] at hj; cases hj
    rw [← h4, List.getElem?_take, if_pos (by omega)] at hj
    simpa using hj
theorem own_slice {w : World} {n₀ : Nat} {e : TypeId} {size n : Nat} {v : Value} {vs : List Value} (h : w.ownsRow n₀ e size v n vs) : ∃ A c, v = .slice A n c := by
  rcases h.2 with ⟨e1, h0⟩ | ⟨g, cap, cur, e1, _⟩
  · exact ⟨none, 0, by rw [e1, h0]⟩
  · exact ⟨_, _, e1⟩

/-- A slice of numbers. -/
def Sl (k : IntKind) (w : World) (v : Value) (xs : List Int) : Prop := ∃ A c, v = .slice A xs.length c ∧ xs.length ≤ c ∧ c ≤ maxLen ∧ (A = none → c = 0) ∧ RV w A (xs.map (Value.int k))
section
variable {k : IntKind} {w w' : World} {v : Value} {xs : List Int}
theorem Sl.up (h : Sl k w v xs) (u : Up w w') : Sl k w' v xs := by
  obtain ⟨A, c, e, h1, h2, h3, h4⟩ := h
  exact ⟨A, c, e, h1, h2, h3, h4.up u⟩
theorem Sl.nil (k : IntKind) (w : World) : Sl k w (.slice none 0 0) [] := ⟨none, 0, rfl, Nat.le_refl _, Nat.zero_le _, fun _ => rfl, RV.nil _ _⟩
theorem Sl.slice (h : Sl k w v xs) : ∃ A c, v = .slice A xs.length c := by
  obtain ⟨A, c, e, _⟩ := h
  exact ⟨_, _, e⟩
theorem Sl.rv {A : Option Addr} {n c : Nat} (h : Sl k w (.slice A n c) xs) : xs.length = n ∧ RV w A (xs.map (Value.int k)) ∧ n ≤ c ∧ c ≤ maxLen ∧ (A = none → c = 0) := by
  obtain ⟨A', c', e, h1, h2, h3, h4⟩ := h
  cases e
  exact ⟨rfl, h4, h1, h2, h3⟩
theorem Sl.len {A : Option Addr} {n c : Nat} (h : Sl k w (.slice A n c) xs) : xs.length = n := h.rv.1
theorem Sl.at_ {A : Option Addr} {n c x : Nat} (h : Sl k w (.slice A n c) xs) (hx : x < n) : ∃ p, A = some p ∧ w.cell? (p.add x) = some (.int k (xs.getD x 0)) := by
  obtain ⟨e, h4, _⟩ := h.rv
  have hx' : x < (xs.map (Value.int k)).length := by rw [List.length_map]; omega
  obtain ⟨p, e2, hc⟩ := h4.at_ hx'
  refine ⟨p, e2, ?_⟩
  rw [hc]
  have : x < xs.length := by omega
  simp [List.getD, List.getElem?_eq_getElem this]
theorem Sl.max (h : Sl k w v xs) : xs.length ≤ maxLen := by
  obtain ⟨A, c, e, h1, h2, _⟩ := h
  omega
end

/-- Values are slices of the rows. -/
def Gd (k : IntKind) (w : World) (us : List Value) (L : List (List Int)) : Prop := us.length = L.length ∧ ∀ (j : Nat) (u : Value) (xs : List Int), us[j]? = some u → L[j]? = some xs → Sl k w u xs
theorem Gd.up {k : IntKind} {w w' : World} {us : List Value} {L : List (List Int)} (h : Gd k w us L) (u : Up w w') : Gd k w' us L := ⟨h.1, fun j a xs h1 h2 => (h.2 j a xs h1 h2).up u⟩
theorem Gd.at_ {k : IntKind} {w : World} {us : List Value} {L : List (List Int)} (h : Gd k w us L) {j : Nat} (hj : j < L.length) : ∃ u, us[j]? = some u ∧ Sl k w u (L.getD j []) := by
  have h1 : j < us.length := by rw [h.1]; exact hj
  exact ⟨us[j], List.getElem?_eq_getElem h1, by
    have := h.2 j us[j] L[j] (List.getElem?_eq_getElem h1) (List.getElem?_eq_getElem hj)
    simpa [List.getD, List.getElem?_eq_getElem hj] using this⟩
/-- A slice of rows. -/
def RwW (k : IntKind) (w : World) (v : Value) (us : List Value) (L : List (List Int)) : Prop := ∃ A c, v = .slice A L.length c ∧ L.length ≤ c ∧ c ≤ maxLen ∧ (A = none → c = 0) ∧ RV w A us ∧ Gd k w us L
def Rw (k : IntKind) (w : World) (v : Value) (L : List (List Int)) : Prop := ∃ us, RwW k w v us L
section
variable {k : IntKind} {w w' : World} {v : Value} {us : List Value} {L : List (List Int)}
theorem RwW.up (h : RwW k w v us L) (u : Up w w') : RwW k w' v us L := by
  obtain ⟨A, c, e, h1, h2, h3, h4, h5⟩ := h
  exact ⟨A, c, e, h1, h2, h3, h4.up u, h5.up u⟩
theorem Rw.up (h : Rw k w v L) (u : Up w w') : Rw k w' v L := by
  obtain ⟨us, h⟩ := h
  exact ⟨us, h.up u⟩
theorem Rw.nil (k : IntKind) (w : World) : Rw k w (.slice none 0 0) [] := ⟨[], none, 0, rfl, Nat.le_refl _, Nat.zero_le _, fun _ => rfl, RV.nil _ _, rfl, fun j u xs h => by simp at h⟩
theorem RwW.at_ {A : Option Addr} {n c x : Nat} (h : RwW k w (.slice A n c) us L) (hx : x < n) : ∃ p u, A = some p ∧ us[x]? = some u ∧ w.cell? (p.add x) = some u ∧ Sl k w u (L.getD x []) := by
  obtain ⟨A', c', e, h1, h2, h3, h4, h5⟩ := h
  cases e
  obtain ⟨u, hu, hs⟩ := h5.at_ hx
  have hl : x < us.length := by rw [h5.1]; exact hx
  obtain ⟨p, e2, hc⟩ := h4.at_ hl
  rw [List.getElem?_eq_getElem hl] at hu
  cases hu
  exact ⟨p, _, e2, List.getElem?_eq_getElem hl, hc, hs⟩
theorem Rw.at_ {A : Option Addr} {n c x : Nat} (h : Rw k w (.slice A n c) L) (hx : x < n) : ∃ p u, A = some p ∧ w.cell? (p.add x) = some u ∧ Sl k w u (L.getD x []) := by
  obtain ⟨us, h⟩ := h
  obtain ⟨p, u, e, _, hc, hs⟩ := h.at_ hx
  exact ⟨p, u, e, hc, hs⟩
theorem Rw.slice (h : Rw k w v L) : ∃ A c, v = .slice A L.length c ∧ L.length ≤ maxLen := by
  obtain ⟨us, A, c, e, h1, h2, _⟩ := h
  exact ⟨_, _, e, by omega⟩
theorem Rw.len {A : Option Addr} {n c : Nat} (h : Rw k w (.slice A n c) L) : L.length = n := by
  obtain ⟨us, A', c', e, _⟩ := h
  cases e
  rfl
end

/-- A node's cells. -/
def nvs : List Nd → List Value → List Value
  | n :: r, u :: us => .int .i64 n.1.1 :: .int .i64 n.1.2.1 :: .int .u64 n.1.2.2 :: u :: nvs r us
  | _, _ => []
theorem nvs_len : ∀ (ns : List Nd) (us : List Value), us.length = ns.length → (nvs ns us).length = ns.length * 4
  | [], _, _ => rfl
  | n :: r, [], h => by cases h
  | n :: r, u :: us, h => by simp only [nvs, List.length_cons, nvs_len r us (by simpa using h)]; omega
theorem nvs_at : ∀ (ns : List Nd) (us : List Value) (j : Nat) (n : Nd) (u : Value), ns[j]? = some n → us[j]? = some u →
    (nvs ns us)[j * 4]? = some (.int .i64 n.1.1) ∧ (nvs ns us)[j * 4 + 1]? = some (.int .i64 n.1.2.1) ∧ (nvs ns us)[j * 4 + 2]? = some (.int .u64 n.1.2.2) ∧ (nvs ns us)[j * 4 + 3]? = some u
  | [], us, j, n, u, h, _ => by simp at h
  | n :: r, [], j, _, u, _, h => by simp at h
  | n :: r, u :: us, 0, n', u', h, k => by simp at h k; subst h; subst k; simp [nvs]
  | n :: r, u :: us, j + 1, n', u', h, k => by
    have := nvs_at r us j n' u' (by simpa using h) (by simpa using k)
    rw [show (j + 1) * 4 = j * 4 + 1 + 1 + 1 + 1 from by omega]
    simpa [nvs] using this
theorem nvs_app : ∀ (ns ms : List Nd) (us xs : List Value), us.length = ns.length → nvs (ns ++ ms) (us ++ xs) = nvs ns us ++ nvs ms xs
  | [], ms, [], xs, _ => rfl
  | n :: r, ms, u :: us, xs, h => by simp [nvs, nvs_app r ms us xs (by simpa using h)]
/-- A slice of nodes. -/
def NsW (w : World) (v : Value) (us : List Value) (ns : List Nd) : Prop := ∃ A c, v = .slice A ns.length c ∧ ns.length ≤ c ∧ c ≤ maxLen ∧ (A = none → c = 0) ∧ RV w A (nvs ns us) ∧ Gd .u64 w us (ns.map (·.2))
def Ns (w : World) (v : Value) (ns : List Nd) : Prop := ∃ us, NsW w v us ns
/-- The cells of a node, as the walk spells them. -/
def NdAt (w : World) (q : Addr) (n : Nd) (u : Value) : Prop := w.cell? q = some (.int .i64 n.1.1) ∧ w.cell? ⟨q.block, q.off + 1, none⟩ = some (.int .i64 n.1.2.1) ∧ w.cell? ⟨q.block, q.off + 2, none⟩ = some (.int .u64 n.1.2.2) ∧ w.cell? ⟨q.block, q.off + 3, none⟩ = some u
theorem nxt_add1 (p : Addr) (j : Nat) : (⟨(p.add j).block, (p.add j).off + 1, none⟩ : Addr) = p.add (j + 1) := by rw [← add_add]; rfl
theorem nxt_add2 (p : Addr) (j : Nat) : (⟨(p.add j).block, (p.add j).off + 2, none⟩ : Addr) = p.add (j + 2) := by rw [← add_add]; rfl
theorem nxt_add3 (p : Addr) (j : Nat) : (⟨(p.add j).block, (p.add j).off + 3, none⟩ : Addr) = p.add (j + 3) := by rw [← add_add]; rfl
section
variable {w w' : World} {v : Value} {us : List Value} {ns : List Nd}
theorem NsW.up (h : NsW w v us ns) (u : Up w w') : NsW w' v us ns := by
  obtain ⟨A, c, e, h1, h2, h3, h4, h5⟩ := h
  exact ⟨A, c, e, h1, h2, h3, h4.up u, h5.up u⟩
theorem Ns.up (h : Ns w v ns) (u : Up w w') : Ns w' v ns := by
  obtain ⟨us, h⟩ := h
  exact ⟨us, h.up u⟩
theorem NsW.at_ {A : Option Addr} {n c x : Nat} (h : NsW w (.slice A n c) us ns) (hx : x < n) : ∃ p u, A = some p ∧ us[x]? = some u ∧ NdAt w (p.add (x * 4)) (ns.getD x ((0, 0, 0), [])) u ∧ Sl .u64 w u (ns.getD x ((0, 0, 0), [])).2 := by
  obtain ⟨A', c', e, h1, h2, h3, h4, h5⟩ := h
  cases e
  have hl : us.length = ns.length := by rw [h5.1, List.length_map]
  have hu : x < us.length := by omega
  have e := nvs_at ns us x ns[x] us[x] (List.getElem?_eq_getElem hx) (List.getElem?_eq_getElem hu)
  have hlen := nvs_len ns us hl
  obtain ⟨p, e2, hp, hc⟩ := h4 (fun q => by rw [q] at hlen; simp at hlen; omega)
  have hn : ns.getD x ((0, 0, 0), []) = ns[x] := by simp [List.getD, List.getElem?_eq_getElem hx]
  rw [hn]
  refine ⟨p, us[x], e2, List.getElem?_eq_getElem hu, ⟨hc _ _ e.1, ?_, ?_, ?_⟩, h5.2 x _ _ (List.getElem?_eq_getElem hu) (by simp [List.getElem?_eq_getElem hx])⟩
  · rw [nxt_add1]; exact hc _ _ e.2.1
  · rw [nxt_add2]; exact hc _ _ e.2.2.1
  · rw [nxt_add3]; exact hc _ _ e.2.2.2
theorem Ns.at_ {A : Option Addr} {n c x : Nat} (h : Ns w (.slice A n c) ns) (hx : x < n) : ∃ p u, A = some p ∧ NdAt w (p.add (x * 4)) (ns.getD x ((0, 0, 0), [])) u ∧ Sl .u64 w u (ns.getD x ((0, 0, 0), [])).2 := by
  obtain ⟨us, h⟩ := h
  obtain ⟨p, u, e, _, hc, hs⟩ := h.at_ hx
  exact ⟨p, u, e, hc, hs⟩
theorem Ns.slice (h : Ns w v ns) : ∃ A c, v = .slice A ns.length c ∧ ns.length ≤ maxLen := by
  obtain ⟨us, A, c, e, h1, h2, _⟩ := h
  exact ⟨_, _, e, by omega⟩
theorem Ns.len {A : Option Addr} {n c : Nat} (h : Ns w (.slice A n c) ns) : ns.length = n := by
  obtain ⟨us, A', c', e, _⟩ := h
  cases e
  rfl
theorem Ns.nil (w : World) : Ns w (.slice none 0 0) [] := ⟨[], none, 0, rfl, Nat.le_refl _, Nat.zero_le _, fun _ => rfl, RV.nil _ _, rfl, fun j u xs h => by simp at h⟩
end
/-- A graph, as a value. -/
def GrV (w : World) (v : Value) (g : Gr) : Prop := ∃ a b, v = .agg #[a, b] ∧ Ns w a g.1 ∧ Rw .i64 w b g.2
theorem GrV.up {w w' : World} {v : Value} {g : Gr} (h : GrV w v g) (u : Up w w') : GrV w' v g := by
  obtain ⟨a, b, e, h1, h2⟩ := h
  exact ⟨a, b, e, h1.up u, h2.up u⟩

end Go.Proofs.YtddoljfkbkbfjaaGreat.G
/-! Of stage 15 -/
namespace Go.Proofs.YtddoljfkbkbfjaaGreat.G
open Go.Joins Go.ChangeShapes Go.WideShapes Go.ChangeAt Go.RowKit Go.Deep Go.Shelf Go.Maps
set_option linter.unusedVariables false
set_option linter.unusedSimpArgs false

/-- An element's type, and the slice's. -/
structure El (T e : TypeId) (size bytes : Nat) : Prop where
  ex : ∃ i0 z, Tryz.prog.info? e = some i0 ∧ i0.zero = some z ∧ i0.size = size ∧ i0.bytes = bytes ∧ z.cells.size = size
  und : Tryz.prog.underlying T = some (.slice e)
  pos : 0 < size
  small : bytes ≤ 48
theorem el_u64 : El 22 54 1 8 := ⟨by
  obtain ⟨i0, h1, h2, h3, h4⟩ := info_parts (P := Tryz.prog) (e := 54) (z := .int .u64 0) (size := 1) (bytes := 8) (by kernel_rfl)
  exact ⟨i0, _, h1, h2, h3, h4, rfl⟩, Tryz.underlying22, by decide, by decide⟩
theorem el_int : El 29 3 1 8 := ⟨by
  obtain ⟨i0, h1, h2, h3, h4⟩ := info_parts (P := Tryz.prog) (e := 3) (z := .int .i64 0) (size := 1) (bytes := 8) (by kernel_rfl)
  exact ⟨i0, _, h1, h2, h3, h4, rfl⟩, Tryz.underlying29, by decide, by decide⟩
theorem el_node : El 46 89 4 48 := ⟨by
  obtain ⟨i0, h1, h2, h3, h4⟩ := info_parts (P := Tryz.prog) (e := 89) (z := .agg #[.int .i64 0, .int .i64 0, .int .u64 0, .slice none 0 0]) (size := 4) (bytes := 48) (by kernel_rfl)
  exact ⟨i0, _, h1, h2, h3, h4, rfl⟩, Tryz.underlying46, by decide, by decide⟩
theorem run_none {T e : TypeId} {size bytes : Nat} (E : El T e size bytes) (A B : Option Addr) (n cap c : Nat) (hc : n ≤ cap) (ty : TypeId) (w : World) : (Builtin.append_ #[T, T] ty #[.slice A n cap, .slice B 0 c]).run Tryz.prog w = .ok (.slice A n cap) w := by
  obtain ⟨⟨i0, z, hi, hz0, hz1, hz2, _⟩, hu, _, _⟩ := E
  cases A <;> cases B <;> simp [Builtin.append_, run_underlying hu, sizeOf, typeInfo, hi, Builtin.lenOf, Builtin.firstCells, loadCells, loadCellsFrom, storeCells, hc]
theorem grown_self (w : World) (r : Option Nat) : w.grownBy w r := ⟨rfl, rfl, rfl, Nat.le_refl _, fun _ _ _ => rfl⟩
/-- An append of some or of none onto a row of the call's own. -/
theorem run_any {T e : TypeId} {size bytes : Nat} (E : El T e size bytes) {w : World} (ty : TypeId) (n₀ n : Nat) (v : Value) (xs : List Value) (hx : w.ownsRow n₀ e size v n xs) (A : Option Addr) (m c : Nat) (ys : List Value) (hl : ys.length = m * size) (hy : RV w A ys) (h1 : ∀ u ∈ ys, u.oneCell' = true)
    (hb : n + m ≤ 1099511627776) (hbase : n₀ ≤ w.heap.size) :
    ∃ v' w', (Builtin.append_ #[T, T] ty #[v, .slice A m c]).run Tryz.prog w = .ok v' w' ∧ w'.ownsRow n₀ e size v' (n + m) (xs ++ ys) ∧ w.grownBy w' v.ownBlock ∧ (m = 0 → v' = v ∧ w' = w) := by
  by_cases hm : m = 0
  · subst hm
    obtain rfl : ys = [] := List.eq_nil_of_length_eq_zero (by omega)
    rw [List.append_nil]
    have hx0 := hx
    obtain ⟨hl, hc⟩ := hx
    rcases hc with ⟨rfl, h0⟩ | ⟨g, cap, cur, rfl, q1, q2, q3, q4⟩
    · exact ⟨_, w, run_none E none A 0 0 c (Nat.le_refl _) ty w, hx0, grown_self _ _, fun _ => ⟨rfl, rfl⟩⟩
    · exact ⟨_, w, run_none E (some ⟨g, 0, none⟩) A n cap c q3 ty w, hx0, grown_self _ _, fun _ => ⟨rfl, rfl⟩⟩
  · have hs := E.pos
    obtain ⟨p, rfl, hp, hc⟩ := hy (fun q => by rw [q] at hl; have := Nat.mul_pos (Nat.pos_of_ne_zero hm) hs; simp at hl; omega)
    have hsm := E.small
    obtain ⟨⟨i0, z, hi, hz0, hz1, hz2, hz3⟩, hu, _, _⟩ := E
    obtain ⟨g, cap, w', r1, r2, r3, _⟩ := run_append_lies (P := Tryz.prog) w T ty n₀ e i0 z size bytes hu hi hz0 hz1 hz2 hz3 hs v n xs hx p m c ys hl hc h1 (by omega) (by unfold maxLen; omega) (by
      have := Nat.mul_le_mul hb hsm
      omega) hbase w.heap.size rfl
    exact ⟨_, w', r1, r2, r3, fun q => absurd q hm⟩
theorem one_ints (k : IntKind) (xs : List Int) : ∀ u ∈ xs.map (Value.int k), u.oneCell' = true := fun u h => by
  obtain ⟨x, _, rfl⟩ := List.mem_map.1 h
  rfl
def Slices (us : List Value) : Prop := ∀ u ∈ us, ∃ A n c, u = .slice A n c
theorem nvs_one : ∀ (ns : List Nd) (us : List Value), Slices us → ∀ u ∈ nvs ns us, u.oneCell' = true
  | [], us, _, u, h => by simp [nvs] at h
  | n :: r, [], _, u, h => by simp [nvs] at h
  | n :: r, x :: us, hs, u, h => by
    simp only [nvs, List.mem_cons] at h
    rcases h with rfl | rfl | rfl | rfl | h
    · rfl
    · rfl
    · rfl
    · obtain ⟨A, n, c, rfl⟩ := hs u (by simp); rfl
    · exact nvs_one r us (fun y hy => hs y (by simp [hy])) u h
theorem Gd.slices {k : IntKind} {w : World} {us : List Value} {L : List (List Int)} (h : Gd k w us L) : Slices us := fun u hu => by
  obtain ⟨j, hj, rfl⟩ := List.getElem_of_mem hu
  have hjl : j < L.length := by rw [← h.1]; exact hj
  obtain ⟨A, c, e⟩ := (h.2 j _ _ (List.getElem?_eq_getElem hj) (List.getElem?_eq_getElem hjl)).slice
  exact ⟨_, _, _, e⟩
theorem up_own {W w w' : World} {e : TypeId} {size n : Nat} {v : Value} {xs : List Value} (h : Up W w) (hx : w.ownsRow W.heap.size e size v n xs) (hg : w.grownBy w' v.ownBlock) : Up W w' := h.grown hg (fun k e => (World.ownsRow.lt hx k e).1)
theorem own_up {w w' : World} {n₀ : Nat} {e : TypeId} {size n : Nat} {v : Value} {xs : List Value} (h : w.ownsRow n₀ e size v n xs) (k : Up w w') : w'.ownsRow n₀ e size v n xs :=
  World.ownsRow.kept h k.gb (by
    cases e : v.ownBlock with
    | none => exact .inl rfl
    | some g => exact .inr (by simp))
theorem own_le {w : World} {n₀ n₁ : Nat} {e : TypeId} {size n : Nat} {v : Value} {xs : List Value} (h : w.ownsRow n₀ e size v n xs) (k : n₁ ≤ n₀) : w.ownsRow n₁ e size v n xs :=
  ⟨h.1, h.2.imp id fun ⟨g, cap, cur, h1, h2, r⟩ => ⟨g, cap, cur, h1, Nat.le_trans k h2, r⟩⟩
theorem own_empty {V : World} {g n₀ : Nat} {e : TypeId} {size : Nat} (h : Blk V g e #[]) (hb : n₀ ≤ g) : V.ownsRow n₀ e size (.slice (some ⟨g, 0, none⟩) 0 0) 0 [] := ⟨by simp, .inr ⟨g, 0, #[], rfl, hb, h, Nat.le_refl _, Nat.zero_le _, by simp, by simp⟩⟩
theorem nil_is {T e : TypeId} (h : Tryz.prog.underlying T = some (.slice e)) (w : World) : (binOp .eql T (.slice none 0 0) (.slice none 0 0)).run Tryz.prog w = .ok (.bool true) w := Lib.run_eql_slice_nil w _ _ none 0 0 0 0 h
theorem nil_no {T e : TypeId} (h : Tryz.prog.underlying T = some (.slice e)) (p : Addr) (n c : Nat) (w : World) : (binOp .eql T (.slice (some p) n c) (.slice none 0 0)).run Tryz.prog w = .ok (.bool false) w := Lib.run_eql_slice_nil w _ _ (some p) n c 0 0 h
/-- A row of the call's own comes. -/
def OwnPost (e : TypeId) (size n : Nat) (vs : List Value) (w : World) (en : Ending) (w' : World) : Prop := ∃ v, en = .returned v ∧ w'.ownsRow w.heap.size e size v n vs ∧ Up w w'

theorem flat_take {α : Type} (L : List (List α)) {x : Nat} (h : x < L.length) : (L.take (x + 1)).flatten = (L.take x).flatten ++ L.getD x [] := by
  rw [List.take_succ_eq_append_getElem h, List.flatten_append]
  simp [List.getD, List.getElem?_eq_getElem h]
theorem flat_one {α : Type} (L : List (List α)) {x : Nat} (h : x < L.length) : (L.take (x + 1)).flatten.length = (L.take x).flatten.length + (L.getD x []).length := by rw [flat_take L h, List.length_append]
theorem flat_le {α : Type} (L : List (List α)) (x : Nat) : (L.take x).flatten.length ≤ L.flatten.length := by
  have h : L.flatten = (L.take x).flatten ++ (L.drop x).flatten := by rw [← List.flatten_append, List.take_append_drop]
  rw [h, List.length_append]
  omega

theorem clone_u64 (A : Option Addr) (n c : Nat) (vs : List Value) (w : World) (hA : A = none → c = 0) (hnc : n ≤ c) (hl : vs.length = n * 1) (hr : RV w A vs) (h1 : ∀ u ∈ vs, u.oneCell' = true) (hb : n ≤ 1099511627776) :
    Calls Tryz.prog 68 #[.slice A n c] w (OwnPost 54 1 n vs w) := by
  cases A with
  | none =>
    obtain rfl := hA rfl
    obtain rfl : n = 0 := by omega
    obtain rfl : vs = [] := List.eq_nil_of_length_eq_zero (by omega)
    have q := nil_is (T := 22) el_u64.und
    clear hr h1 hA
    go_enter Tryz.func68, Tryz.ntmps68
    go_wp2
    go_ret
    exact ⟨_, rfl, World.ownsRow_nil _ _ _ _, Up.refl _⟩
  | some p =>
    have q := nil_no (T := 22) el_u64.und p n c
    obtain ⟨v', w', hrun, hown, hg, -⟩ := run_any el_u64 (w := w.alloc (.cells #[] 54)) 22 w.heap.size 0 (.slice (some ⟨w.heap.size, 0, none⟩) 0 0) [] (own_empty (Blk.new w _ _) (Nat.le_refl _)) (some p) n c vs hl (hr.up ((Up.refl w).alloc _)) h1 (by omega) (by simp)
    rw [Nat.zero_add, List.nil_append] at hown
    have hU : Up w w' := up_own ((Up.refl w).alloc _) (own_empty (e := 54) (size := 1) (Blk.new w _ _) (Nat.le_refl _)) hg
    have HO := Lib.hid hown
    have HU := Lib.hid hU
    clear hown hU hg hr h1 hA hl hnc
    go_enter Tryz.func68, Tryz.ntmps68
    go_wp2_with (at_builtin; refine Lib.wpList_append_run _ rfl _ _ _ _ rfl _ _ rfl rfl _ _ hrun ?_)
    go_ret
    exact ⟨_, rfl, HO.out, HU.out⟩

theorem zeros_u64 (n : Nat) : (Builtin.zeroCells (Value.int .u64 0).cells n).toList.length = n := by
  rw [Array.length_toList, size_zeroCells]
  show n * 1 = n
  omega
def Sumu64 (w : World) (L : List (List Int)) (n : Nat) (s i : Value) (wr : World) : Prop := ∃ x : Nat, x ≤ n ∧ i = .int .i64 x ∧ s = .int .i64 ((L.take x).flatten.length : Nat) ∧ w = wr
def Catu64 (w : World) (L : List (List Int)) (n : Nat) (u i : Value) (wr : World) : Prop := ∃ x : Nat, x ≤ n ∧ i = .int .i64 x ∧ wr.ownsRow w.heap.size 54 1 u (L.take x).flatten.length ((L.take x).flatten.map (Value.int .u64)) ∧ (L.flatten = [] → u = .slice none 0 0) ∧ Up w wr
theorem zeros_int (n : Nat) : (Builtin.zeroCells (Value.int .i64 0).cells n).toList.length = n := by
  rw [Array.length_toList, size_zeroCells]
  show n * 1 = n
  omega
def Sumint (w : World) (L : List (List Int)) (n : Nat) (s i : Value) (wr : World) : Prop := ∃ x : Nat, x ≤ n ∧ i = .int .i64 x ∧ s = .int .i64 ((L.take x).flatten.length : Nat) ∧ w = wr
def Catint (w : World) (L : List (List Int)) (n : Nat) (u i : Value) (wr : World) : Prop := ∃ x : Nat, x ≤ n ∧ i = .int .i64 x ∧ wr.ownsRow w.heap.size 3 1 u (L.take x).flatten.length ((L.take x).flatten.map (Value.int .i64)) ∧ (L.flatten = [] → u = .slice none 0 0) ∧ Up w wr

end Go.Proofs.YtddoljfkbkbfjaaGreat.G
/-! Of stage 15 -/
namespace Go.Proofs.YtddoljfkbkbfjaaGreat.G
open Go.Joins Go.ChangeShapes Go.WideShapes Go.ChangeAt Go.RowKit Go.Deep Go.Shelf Go.Maps
set_option linter.unusedVariables false
set_option linter.unusedSimpArgs false

/-- Where a row begins. -/
def off (L : List (List Int)) (j : Nat) : Nat := (L.take j).flatten.length
theorem off_step {L : List (List Int)} {j : Nat} (h : j < L.length) : off L (j + 1) = off L j + (L.getD j []).length := flat_one L h
theorem off_le (L : List (List Int)) (j : Nat) : off L j ≤ L.flatten.length := flat_le L j
theorem off_all (L : List (List Int)) : off L L.length = L.flatten.length := by unfold off; rw [List.take_length]
theorem flat_at {L : List (List Int)} {j i : Nat} {xs : List Int} {x : Int} (h : L[j]? = some xs) (k : xs[i]? = some x) : L.flatten[off L j + i]? = some x := by
  have hj : j < L.length := by
    rcases Nat.lt_or_ge j L.length with q | q
    · exact q
    · rw [List.getElem?_eq_none q] at h; cases h
  have hi : i < xs.length := by
    rcases Nat.lt_or_ge i xs.length with q | q
    · exact q
    · rw [List.getElem?_eq_none q] at k; cases k
  have e : L.flatten = (L.take j).flatten ++ (xs ++ (L.drop (j + 1)).flatten) := by
    have e2 : L.drop j = xs :: L.drop (j + 1) := by
      rw [List.drop_eq_getElem_cons hj]
      rw [List.getElem?_eq_getElem hj] at h
      cases h
      rfl
    rw [← List.flatten_cons, ← e2, ← List.flatten_append, List.take_append_drop]
  rw [e, List.getElem?_append_right (by unfold off; omega)]
  have : off L j + i - (L.take j).flatten.length = i := by unfold off; omega
  rw [this, List.getElem?_append_left hi, k]
/-- Rows that stand in one block, each behind the one ahead of it. -/
structure Ct (k : IntKind) (e : TypeId) (base : Nat) (w : World) (us : List Value) (L : List (List Int)) (B : Nat) : Prop where
  len : us.length = L.length
  row : ∀ (j : Nat) (u : Value) (xs : List Int), us[j]? = some u → L[j]? = some xs → ∃ A, u = .slice A xs.length xs.length ∧ (A = none → xs.length = 0) ∧ (xs ≠ [] → A = some ⟨B, off L j, none⟩)
  blk : L.flatten ≠ [] → base ≤ B ∧ ∃ cs, Blk w B e cs ∧ ∀ (i : Nat) (x : Int), L.flatten[i]? = some x → cs[i]? = some (.int k x)
  short : ∀ xs ∈ L, xs.length ≤ maxLen
theorem Ct.up {k : IntKind} {e : TypeId} {base : Nat} {w w' : World} {us : List Value} {L : List (List Int)} {B : Nat} (h : Ct k e base w us L B) (u : Up w w') : Ct k e base w' us L B :=
  ⟨h.len, h.row, fun q => by
    obtain ⟨h1, cs, h2, h3⟩ := h.blk q
    exact ⟨h1, cs, h2.up u, h3⟩, h.short⟩
theorem Ct.slices {k : IntKind} {e : TypeId} {base : Nat} {w : World} {us : List Value} {L : List (List Int)} {B : Nat} (h : Ct k e base w us L B) : Slices us := fun u hu => by
  obtain ⟨j, hj, rfl⟩ := List.getElem_of_mem hu
  have hjl : j < L.length := by rw [← h.len]; exact hj
  obtain ⟨A, e, _⟩ := h.row j _ _ (List.getElem?_eq_getElem hj) (List.getElem?_eq_getElem hjl)
  exact ⟨_, _, _, e⟩
theorem add_off (g a b : Nat) : (⟨g, a, none⟩ : Addr).add b = ⟨g, a + b, none⟩ := by unfold Addr.add; split <;> simp_all
theorem Ct.gd {k : IntKind} {e : TypeId} {base : Nat} {w : World} {us : List Value} {L : List (List Int)} {B : Nat} (h : Ct k e base w us L B) : Gd k w us L := by
  refine ⟨h.len, fun j u xs h1 h2 => ?_⟩
  obtain ⟨A, e1, e2, e3⟩ := h.row j u xs h1 h2
  refine ⟨A, xs.length, e1, Nat.le_refl _, h.short xs (List.mem_of_getElem? h2), e2, fun q => ?_⟩
  have hx : xs ≠ [] := fun q2 => q (by rw [q2]; rfl)
  have hf : L.flatten ≠ [] := fun q2 => by
    obtain ⟨x, r, e4⟩ := List.exists_cons_of_ne_nil hx
    have := flat_at (i := 0) (x := x) h2 (by rw [e4]; rfl)
    rw [q2] at this
    simp at this
  obtain ⟨_, cs, hb, hc⟩ := h.blk hf
  refine ⟨_, e3 hx, hb.lt, fun i v hi => ?_⟩
  rw [List.getElem?_map] at hi
  obtain ⟨x, hx1, rfl⟩ := Option.map_eq_some_iff.1 hi
  rw [add_off, hb.cell]
  exact hc _ _ (flat_at h2 hx1)
/-- What is left of the one row, ahead of the x-th. -/
def Lft (base B T o : Nat) (v : Value) : Prop := ∃ A len cap, v = .slice A len cap ∧ len + o = T ∧ len ≤ cap ∧ cap ≤ maxLen ∧ (A = none → cap = 0) ∧ (0 < len → A = some ⟨B, o, none⟩ ∧ base ≤ B)
theorem sub_n {a b : Nat} (h : b ≤ a) : (a : Int).toNat - (b : Int).toNat = a - b := by omega
theorem made_rows (n : Nat) : madeCells #[.slice none 0 0] n = (List.replicate n (Value.slice none 0 0)).toArray := by
  apply Array.ext
  · simp [size_madeCells]
  · intro i h1 h2
    simp [madeCells, Nat.mod_one]

theorem run_cut2_u64 (A : Option Addr) (n c k : Nat) (hk : k ≤ c) (w : World) :
    (Instr.sliceAt 22 (.slice A n c) none (some (.int .i64 (k : Int))) (some (.int .i64 (k : Int)))).run Tryz.prog w = .ok (.slice A k k) w ∧ (Instr.slice 22 (.slice A n c) none (some (.int .i64 (k : Int))) (some (.int .i64 (k : Int)))).run Tryz.prog w = .ok (.slice A k k) w := by
  obtain ⟨i0, z, hi0, hz0, hz1, hz2⟩ := el_u64.ex
  have hel : Tryz.prog.elem 22 = 54 := by kernel_rfl
  have hu : Tryz.prog.underlying 22 = some (.slice (Tryz.prog.elem 22)) := by rw [hel]; exact el_u64.und
  rw [run_sliceAt_slice (h := hu), and_self, run_slice_hm (ht := hu) (h0 := by omega) (h2 := by omega) (h3 := by omega), hel]
  cases A
  · simp [sizeOf, typeInfo, hi0, sliced]
  · rename_i p
    have e0 : p.add 0 = p := Addr.add_zero' p
    simp [sizeOf, typeInfo, hi0, sliced, e0]
theorem run_cut3_u64 (A : Option Addr) (n c k : Nat) (hk : k ≤ n) (w : World) :
    (Instr.sliceAt 22 (.slice A n c) (some (.int .i64 (k : Int))) none none).run Tryz.prog w = .ok (.slice (if c = k then A else A.map (·.add k)) (n - k) (c - k)) w ∧ (Instr.slice 22 (.slice A n c) (some (.int .i64 (k : Int))) none none).run Tryz.prog w = .ok (.slice (if c = k then A else A.map (·.add k)) (n - k) (c - k)) w := by
  obtain ⟨i0, z, hi0, hz0, hz1, hz2⟩ := el_u64.ex
  have hel : Tryz.prog.elem 22 = 54 := by kernel_rfl
  have hu : Tryz.prog.underlying 22 = some (.slice (Tryz.prog.elem 22)) := by rw [hel]; exact el_u64.und
  rw [run_sliceAt_slice (h := hu), and_self, run_slice_l (ht := hu) (h0 := by omega) (h1 := by omega), hel]
  simp [sizeOf, typeInfo, hi0, hz1, sliced]
theorem make_u64 (n : Nat) (hn : n ≤ 1099511627776) (w : World) :
    (Instr.makeSlice 52 (.int .i64 (n : Int)) (.int .i64 (n : Int))).run Tryz.prog w = .ok (.slice (some ⟨w.heap.size, 0, none⟩) n n) (w.alloc (.cells (List.replicate n (Value.slice none 0 0)).toArray 22)) := by
  have := run_make_row' (P := Tryz.prog) 52 22 (.slice none 0 0) 24 Tryz.underlying52 (by kernel_rfl) rfl .i64 .i64 n (by omega) (by omega) w
  rw [made_rows] at this
  exact this
/-- The rows that are laid so far. -/
def Ldu64 (w : World) (n : Nat) (L : List (List Int)) (G B : Nat) (cs : Array Value) (v1 v i : Value) (wr : World) : Prop :=
  ∃ (x : Nat) (us : List Value), x ≤ n ∧ i = .int .i64 x ∧ Blk wr G 22 us.toArray ∧ us.length = n ∧ Lft w.heap.size B L.flatten.length (off L x) v ∧
    (∀ (j : Nat) (u : Value) (xs : List Int), j < x → us[j]? = some u → L[j]? = some xs → ∃ A, u = .slice A xs.length xs.length ∧ (A = none → xs.length = 0) ∧ (xs ≠ [] → A = some ⟨B, off L j, none⟩)) ∧ (L.flatten ≠ [] → Blk wr B 54 cs) ∧ Up w wr
def LdPostu64 (L : List (List Int)) (w : World) (e : Ending) (w' : World) : Prop :=
  ∃ G B us, e = .returned (.slice (some ⟨G, 0, none⟩) L.length L.length) ∧ Blk w' G 22 us.toArray ∧ Ct .u64 54 w.heap.size w' us L B ∧ w.heap.size ≤ G ∧ Up w w'
theorem run_cut2_int (A : Option Addr) (n c k : Nat) (hk : k ≤ c) (w : World) :
    (Instr.sliceAt 29 (.slice A n c) none (some (.int .i64 (k : Int))) (some (.int .i64 (k : Int)))).run Tryz.prog w = .ok (.slice A k k) w ∧ (Instr.slice 29 (.slice A n c) none (some (.int .i64 (k : Int))) (some (.int .i64 (k : Int)))).run Tryz.prog w = .ok (.slice A k k) w := by
  obtain ⟨i0, z, hi0, hz0, hz1, hz2⟩ := el_int.ex
  have hel : Tryz.prog.elem 29 = 3 := by kernel_rfl
  have hu : Tryz.prog.underlying 29 = some (.slice (Tryz.prog.elem 29)) := by rw [hel]; exact el_int.und
  rw [run_sliceAt_slice (h := hu), and_self, run_slice_hm (ht := hu) (h0 := by omega) (h2 := by omega) (h3 := by omega), hel]
  cases A
  · simp [sizeOf, typeInfo, hi0, sliced]
  · rename_i p
    have e0 : p.add 0 = p := Addr.add_zero' p
    simp [sizeOf, typeInfo, hi0, sliced, e0]
theorem run_cut3_int (A : Option Addr) (n c k : Nat) (hk : k ≤ n) (w : World) :
    (Instr.sliceAt 29 (.slice A n c) (some (.int .i64 (k : Int))) none none).run Tryz.prog w = .ok (.slice (if c = k then A else A.map (·.add k)) (n - k) (c - k)) w ∧ (Instr.slice 29 (.slice A n c) (some (.int .i64 (k : Int))) none none).run Tryz.prog w = .ok (.slice (if c = k then A else A.map (·.add k)) (n - k) (c - k)) w := by
  obtain ⟨i0, z, hi0, hz0, hz1, hz2⟩ := el_int.ex
  have hel : Tryz.prog.elem 29 = 3 := by kernel_rfl
  have hu : Tryz.prog.underlying 29 = some (.slice (Tryz.prog.elem 29)) := by rw [hel]; exact el_int.und
  rw [run_sliceAt_slice (h := hu), and_self, run_slice_l (ht := hu) (h0 := by omega) (h1 := by omega), hel]
  simp [sizeOf, typeInfo, hi0, hz1, sliced]
theorem make_int (n : Nat) (hn : n ≤ 1099511627776) (w : World) :
    (Instr.makeSlice 47 (.int .i64 (n : Int)) (.int .i64 (n : Int))).run Tryz.prog w = .ok (.slice (some ⟨w.heap.size, 0, none⟩) n n) (w.alloc (.cells (List.replicate n (Value.slice none 0 0)).toArray 29)) := by
  have := run_make_row' (P := Tryz.prog) 47 29 (.slice none 0 0) 24 Tryz.underlying47 (by kernel_rfl) rfl .i64 .i64 n (by omega) (by omega) w
  rw [made_rows] at this
  exact this
/-- The rows that are laid so far. -/
def Ldint (w : World) (n : Nat) (L : List (List Int)) (G B : Nat) (cs : Array Value) (v1 v i : Value) (wr : World) : Prop :=
  ∃ (x : Nat) (us : List Value), x ≤ n ∧ i = .int .i64 x ∧ Blk wr G 29 us.toArray ∧ us.length = n ∧ Lft w.heap.size B L.flatten.length (off L x) v ∧
    (∀ (j : Nat) (u : Value) (xs : List Int), j < x → us[j]? = some u → L[j]? = some xs → ∃ A, u = .slice A xs.length xs.length ∧ (A = none → xs.length = 0) ∧ (xs ≠ [] → A = some ⟨B, off L j, none⟩)) ∧ (L.flatten ≠ [] → Blk wr B 3 cs) ∧ Up w wr
def LdPostint (L : List (List Int)) (w : World) (e : Ending) (w' : World) : Prop :=
  ∃ G B us, e = .returned (.slice (some ⟨G, 0, none⟩) L.length L.length) ∧ Blk w' G 29 us.toArray ∧ Ct .i64 3 w.heap.size w' us L B ∧ w.heap.size ≤ G ∧ Up w w'

end Go.Proofs.YtddoljfkbkbfjaaGreat.G
/-! Of stage 15 -/
namespace Go.Proofs.YtddoljfkbkbfjaaGreat.G
open Go.Joins Go.ChangeShapes Go.WideShapes Go.ChangeAt Go.RowKit Go.Deep Go.Shelf Go.Maps
set_option linter.unusedVariables false
set_option linter.unusedSimpArgs false

/-- A graph that is all a call's own: its nodes, their fields in one block, the threads' handles, in one block too. -/
structure OwnG (base : Nat) (w : World) (vn vs : Value) (g : Gr) (us us2 : List Value) (BF GS BS : Nat) : Prop where
  nodes : w.ownsRow base 89 4 vn g.1.length (nvs g.1 us)
  flds : Ct .u64 54 base w us (g.1.map (·.2)) BF
  val : vs = .slice (some ⟨GS, 0, none⟩) g.2.length g.2.length
  grid : Blk w GS 29 us2.toArray
  rows : Ct .i64 3 base w us2 g.2 BS
  ge : base ≤ GS
  few : g.2.length ≤ maxLen
theorem OwnG.up {base : Nat} {w w' : World} {vn vs : Value} {g : Gr} {us us2 : List Value} {BF GS BS : Nat} (h : OwnG base w vn vs g us us2 BF GS BS) (u : Up w w') : OwnG base w' vn vs g us us2 BF GS BS :=
  ⟨own_up h.nodes u, h.flds.up u, h.val, h.grid.up u, h.rows.up u, h.ge, h.few⟩
theorem ns_of_own {base : Nat} {w : World} {v : Value} {ns : List Nd} {us : List Value} (h : w.ownsRow base 89 4 v ns.length (nvs ns us)) (hg : Gd .u64 w us (ns.map (·.2))) : NsW w v us ns := by
  obtain ⟨A, c, rfl⟩ := own_slice h
  obtain ⟨_, h2, h3, h4, h5⟩ := rv_of_own h (nvs_len ns us (by rw [hg.1, List.length_map]))
  exact ⟨A, c, rfl, h2, h3, h4, h5, hg⟩
theorem OwnG.ns {base : Nat} {w : World} {vn vs : Value} {g : Gr} {us us2 : List Value} {BF GS BS : Nat} (h : OwnG base w vn vs g us us2 BF GS BS) : NsW w vn us g.1 := ns_of_own h.nodes h.flds.gd
theorem OwnG.rw_ {base : Nat} {w : World} {vn vs : Value} {g : Gr} {us us2 : List Value} {BF GS BS : Nat} (h : OwnG base w vn vs g us us2 BF GS BS) : RwW .i64 w vs us2 g.2 :=
  ⟨_, _, h.val, Nat.le_refl _, h.few, fun q => (by cases q), rv_of_blk h.grid (fun j v hj => by simpa using hj), h.rows.gd⟩
theorem OwnG.gr {base : Nat} {w : World} {vn vs : Value} {g : Gr} {us us2 : List Value} {BF GS BS : Nat} (h : OwnG base w vn vs g us us2 BF GS BS) : GrV w (.agg #[vn, vs]) g := ⟨_, _, rfl, ⟨us, h.ns⟩, us2, h.rw_⟩

theorem nvs_set : ∀ (ns : List Nd) (us : List Value) (x : Nat) (u : Value), us.length = ns.length → nvs ns (us.set x u) = (nvs ns us).set (x * 4 + 3) u
  | [], us, x, u, _ => rfl
  | n :: r, [], x, u, h => by cases h
  | n :: r, v :: us, 0, u, h => by simp [nvs]
  | n :: r, v :: us, x + 1, u, h => by
    rw [show (x + 1) * 4 + 3 = x * 4 + 3 + 1 + 1 + 1 + 1 from by omega]
    simp [nvs, nvs_set r us x u (by simpa using h)]
theorem grownBy_setAt (w : World) (G i : Nat) (u : Value) : w.grownBy (w.setCell ⟨G, i, none⟩ u) (some G) :=
  ⟨rfl, rfl, rfl, by simp, fun k _ hk => heap_setCell_other w ⟨G, i, none⟩ k u (fun e => hk (by simp [e]))⟩
theorem own_far {w : World} {n₀ : Nat} {e t : TypeId} {size n b : Nat} {v : Value} {xs : List Value} {cs : Array Value} (h : w.ownsRow n₀ e size v n xs) (hb : Blk w b t cs) (hne : e ≠ t) (i : Nat) (u : Value) : (w.setCell ⟨b, i, none⟩ u).ownsRow n₀ e size v n xs :=
  World.ownsRow.kept h (grownBy_setAt _ b _ _) (.inr (own_row_ne h hb hne).symm)
theorem Ct.far {k : IntKind} {e t : TypeId} {base b : Nat} {w : World} {us : List Value} {L : List (List Int)} {B : Nat} {cs : Array Value} (h : Ct k e base w us L B) (hb : Blk w b t cs) (hne : e ≠ t) (i : Nat) (u : Value) : Ct k e base (w.setCell ⟨b, i, none⟩ u) us L B :=
  ⟨h.len, h.row, fun q => by
    obtain ⟨h1, ds, h2, h3⟩ := h.blk q
    exact ⟨h1, ds, h2.far (p := ⟨b, i, none⟩) (h2.ne_type hb hne) u, h3⟩, h.short⟩
/-- A store into a block of another kind. -/
theorem OwnG.far {base : Nat} {w : World} {vn vs : Value} {g : Gr} {us us2 : List Value} {BF GS BS b : Nat} {t : TypeId} {cs : Array Value} (h : OwnG base w vn vs g us us2 BF GS BS) (hb : Blk w b t cs) (h1 : 89 ≠ t) (h2 : 54 ≠ t) (h3 : 29 ≠ t) (h4 : 3 ≠ t) (i : Nat) (u : Value) :
    OwnG base (w.setCell ⟨b, i, none⟩ u) vn vs g us us2 BF GS BS :=
  ⟨own_far h.nodes hb h1 i u, h.flds.far hb h2 i u, h.val, h.grid.far (p := ⟨b, i, none⟩) (h.grid.ne_type hb h3) u, h.rows.far hb h4 i u, h.ge, h.few⟩
/-- How much there is at most. -/
structure FitG (g : Gr) : Prop where
  n : g.1.length ≤ 1048576
  f : (g.1.map (·.2)).flatten.length ≤ 1099511627776
  s : g.2.length ≤ 1099511627776
  h : g.2.flatten.length ≤ 1099511627776
def Fl1 (w w1 : World) (n F : Nat) (us : List Value) (i : Value) (wr : World) : Prop := ∃ (x : Nat) (vs : List Value), x ≤ n ∧ i = .int .i64 x ∧ Blk wr F 22 vs.toArray ∧ vs.length = n ∧ (∀ j, j < x → vs[j]? = us[j]?) ∧ Up w1 wr
def Fl2 (w w2 : World) (n : Nat) (v : Value) (ns : List Nd) (us' : List Value) (i : Value) (wr : World) : Prop := ∃ (x : Nat) (vs : List Value), x ≤ n ∧ i = .int .i64 x ∧ wr.ownsRow w.heap.size 89 4 v n (nvs ns vs) ∧ vs.length = n ∧ (∀ j, j < x → vs[j]? = us'[j]?) ∧ Up w wr ∧ (∀ g t cs, 89 ≠ t → Blk w2 g t cs → Blk wr g t cs)
def CpPost (g : Gr) (w : World) (e : Ending) (w' : World) : Prop :=
  ∃ vn vs us us2 BF GS BS, e = .returned (.agg #[vn, vs]) ∧ OwnG w.heap.size w' vn vs g us us2 BF GS BS ∧ Up w w'
theorem take_same {α : Type} {xs ys : List α} {n : Nat} (h1 : xs.length = n) (h2 : ys.length = n) (h : ∀ j, j < n → xs[j]? = ys[j]?) : xs = ys := by
  apply List.ext_getElem?
  intro j
  rcases Nat.lt_or_ge j n with q | q
  · exact h j q
  · rw [List.getElem?_eq_none (by omega), List.getElem?_eq_none (by omega)]

end Go.Proofs.YtddoljfkbkbfjaaGreat.G
