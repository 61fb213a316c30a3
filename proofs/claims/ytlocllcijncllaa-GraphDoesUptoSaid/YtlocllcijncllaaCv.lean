/- graph.Canon's closure: what its boxes hold, and what stays. -/
import Derived.Test.YtlocllcijncllaaCt
namespace Go.Proofs.Ytlocllcijncllaa
open Go.Joins Go.ChangeShapes Go.WideShapes Go.ChangeAt Go.RowKit Go.Deep Go.Shelf Go.Maps
set_option linter.unusedVariables false
set_option linter.unusedSimpArgs false

/-- The places, as they stand in their row. -/
def plc (N : Nat) (o : List Int) : Array Value := ((List.range N).map fun (k : Nat) => Value.int .u64 (pl o ((k : Int) + 1))).toArray
theorem plc_at {N : Nat} (o : List Int) {k : Nat} (h : k < N) : (plc N o)[k]? = some (.int .u64 (pl o ((k : Int) + 1))) := by
  simp [plc, h]
theorem pl_snoc {o : List Int} {n : Int} (h : n ∉ o) : pl (o ++ [n]) n = (o.length : Int) + 1 := by
  unfold pl
  rw [if_pos (by simp), List.idxOf_append, if_neg h]
  simp
theorem pl_snoc_ne {o : List Int} {n m : Int} (h : m ≠ n) : pl (o ++ [n]) m = pl o m := by
  unfold pl
  by_cases k : m ∈ o
  · rw [if_pos k, if_pos (List.mem_append_left _ k), List.idxOf_append, if_pos k]
  · rw [if_neg k, if_neg (by simp [k, h])]
theorem plc_snoc {N y : Nat} {o : List Int} (hy : y < N) (h : (y : Int) + 1 ∉ o) : (plc N o).setIfInBounds y (.int .u64 ((o.length : Int) + 1)) = plc N (o ++ [(y : Int) + 1]) := by
  have hs : (plc N o).size = N := by simp [plc]
  apply Array.ext
  · simp [plc]
  · intro i h1 h2
    have hi : i < N := by simpa [plc] using h1
    have e2 : (plc N (o ++ [(y : Int) + 1]))[i] = .int .u64 (pl (o ++ [(y : Int) + 1]) ((i : Int) + 1)) := by
      have := plc_at (o ++ [(y : Int) + 1]) hi
      rw [Array.getElem?_eq_getElem h2] at this
      exact Option.some.inj this
    rw [e2]
    by_cases e : y = i
    · subst e
      rw [Array.getElem_setIfInBounds_self, pl_snoc h]
    · rw [Array.getElem_setIfInBounds_ne (by omega) e, pl_snoc_ne (by omega)]
      have := plc_at o hi
      rw [Array.getElem?_eq_getElem (by omega)] at this
      exact Option.some.inj this

/-- All is as it was but for two blocks and a row's own. -/
structure Kc (PL OB : Nat) (b : Option Nat) (w w' : World) : Prop where
  os : w'.os = w.os
  tape : w'.tape = w.tape
  output : w'.output = w.output
  size : w.heap.size ≤ w'.heap.size
  block : ∀ k, k < w.heap.size → k ≠ PL → k ≠ OB → some k ≠ b → w'.heap[k]? = w.heap[k]?
/-- A row is where it was, or in new memory. -/
def Nx (w : World) (b b' : Option Nat) : Prop := b' = b ∨ ∀ x, b' = some x → w.heap.size ≤ x
section
variable {PL OB : Nat} {b b' b'' : Option Nat} {w w' w'' : World}
theorem Nx.refl (w : World) (b : Option Nat) : Nx w b b := .inl rfl
theorem Nx.trans (h : Nx w b b') (hs : w.heap.size ≤ w'.heap.size) (k : Nx w' b' b'') : Nx w b b'' := by
  rcases k with rfl | k
  · exact h
  · exact .inr fun x e => Nat.le_trans hs (k x e)
theorem Nx.old (h : Nx w b b') (hs : w'.heap.size ≤ w.heap.size) : Nx w' b b' := by
  rcases h with rfl | k
  · exact .inl rfl
  · exact .inr fun x e => Nat.le_trans hs (k x e)
theorem Nx.ne (h : Nx w b b') {k : Nat} (hk : k < w.heap.size) (hb : some k ≠ b) : some k ≠ b' := by
  rcases h with rfl | q
  · exact hb
  · intro e
    have := q k e.symm
    omega
theorem Kc.of_up (h : Up w w') : Kc PL OB b w w' := ⟨h.os, h.tape, h.output, h.size, fun k hk _ _ _ => h.block k hk⟩
theorem Kc.refl (w : World) : Kc PL OB b w w := .of_up (Up.refl w)
theorem Kc.trans (h : Kc PL OB b w w') (n : Nx w b b') (k : Kc PL OB b' w' w'') : Kc PL OB b w w'' :=
  ⟨k.os.trans h.os, k.tape.trans h.tape, k.output.trans h.output, Nat.le_trans h.size k.size, fun i h1 h2 h3 h4 =>
    (k.block i (Nat.lt_of_lt_of_le h1 h.size) h2 h3 (n.ne h1 h4)).trans (h.block i h1 h2 h3 h4)⟩
theorem Kc.up (h : Kc PL OB b w w') (k : Up w' w'') : Kc PL OB b w w'' := h.trans (Nx.refl w b) (.of_up k)
theorem Kc.of_gb (h : w.grownBy w' b) : Kc PL OB b w w' := ⟨h.os, h.tape, h.output, h.size, fun k hk _ _ hb => h.block k hk hb⟩
theorem Kc.setC (h : Kc PL OB b w w') {p : Addr} (hp : p.block = PL ∨ p.block = OB ∨ w.heap.size ≤ p.block) (u : Value) : Kc PL OB b w (w'.setCell p u) :=
  ⟨h.os, h.tape, h.output, by simpa [World.setCell] using h.size, fun k hk h1 h2 h3 => (Below.heap_setCell w' p u k (by omega)).trans (h.block k hk h1 h2 h3)⟩
theorem Blk.kc {k : Nat} {t : TypeId} {cs : Array Value} (h : Blk w k t cs) (q : Kc PL OB b w w') (h1 : k ≠ PL) (h2 : k ≠ OB) (h3 : some k ≠ b) : Blk w' k t cs := (q.block k h.lt h1 h2 h3).trans h
/-- Memory that is older than the two blocks and the row is as it was. -/
theorem Kc.below {a : World} (h : Kc PL OB b w w') (ha : Up a w) (h1 : a.heap.size ≤ PL) (h2 : a.heap.size ≤ OB) (h3 : ∀ x, b = some x → a.heap.size ≤ x) : Up a w' :=
  ⟨h.os.trans ha.os, h.tape.trans ha.tape, h.output.trans ha.output, Nat.le_trans ha.size h.size, fun k hk => (h.block k (Nat.lt_of_lt_of_le hk ha.size) (by omega) (by omega) (fun e => by have := h3 k e.symm; omega)).trans (ha.block k hk)⟩
end
abbrev rov (GB PB OB RB : Nat) : Value := .func (.func 41) #[] #[ptv GB, ptv PB, ptv OB, ptv RB]
/-- Where the closure's boxes lie. -/
structure Gx (w0 : World) (GB PL OB : Nat) : Prop where
  pl : w0.heap.size ≤ PL
  ob : w0.heap.size ≤ OB
  ne : GB ≠ OB
/-- What they hold. -/
structure Cn (g : Gr) (w0 : World) (GB PB PL OB RB c : Nat) (A : Option Addr) (vs0 vs vn : Value) (us : List Value) (o : List Int) (w : World) : Prop where
  hG : Blk w GB 25 #[.slice A g.1.length c, vs0]
  hP : Blk w PB 60 #[.slice (some ⟨PL, 0, none⟩) g.1.length g.1.length]
  hL : Blk w PL 26 (plc g.1.length o)
  hO : Blk w OB 25 #[vn, vs]
  hR : Blk w RB 83 #[rov GB PB OB RB]
  hN : w.ownsRow w0.heap.size 62 4 vn o.length (nvs (o.map (ndOf g)) us)
  hus : us.length = o.length
  td : Told g o
  up : Up w0 w
section
variable {g : Gr} {w0 w w' : World} {GB PB PL OB RB c : Nat} {A : Option Addr} {vs0 vs vn : Value} {us : List Value} {o : List Int}
theorem Cn.upw (h : Cn g w0 GB PB PL OB RB c A vs0 vs vn us o w) (k : Up w w') : Cn g w0 GB PB PL OB RB c A vs0 vs vn us o w' :=
  ⟨h.hG.up k, h.hP.up k, h.hL.up k, h.hO.up k, h.hR.up k, own_up h.hN k, h.hus, h.td, h.up.trans k⟩
theorem Cn.no {k : Nat} {t : TypeId} {cs : Array Value} (h : Cn g w0 GB PB PL OB RB c A vs0 vs vn us o w) (hb : Blk w k t cs) (ht : 62 ≠ t) : some k ≠ vn.ownBlock := own_row_ne h.hN hb ht
theorem Cn.geB (h : Cn g w0 GB PB PL OB RB c A vs0 vs vn us o w) : ∀ x, vn.ownBlock = some x → w0.heap.size ≤ x ∧ x < w.heap.size := fun x e => World.ownsRow.lt h.hN x e
/-- A store into new memory. -/
theorem Cn.far {B i : Nat} {cs : Array Value} (h : Cn g w0 GB PB PL OB RB c A vs0 vs vn us o w) (hB : Blk w B 26 cs) (h1 : B ≠ PL) (h2 : w0.heap.size ≤ B) (u : Value) : Cn g w0 GB PB PL OB RB c A vs0 vs vn us o (w.setCell ⟨B, i, none⟩ u) :=
  ⟨h.hG.far (p := ⟨B, i, none⟩) (h.hG.ne_type hB (by decide)) u, h.hP.far (p := ⟨B, i, none⟩) (h.hP.ne_type hB (by decide)) u, h.hL.far (p := ⟨B, i, none⟩) (fun e => h1 e.symm) u, h.hO.far (p := ⟨B, i, none⟩) (h.hO.ne_type hB (by decide)) u, h.hR.far (p := ⟨B, i, none⟩) (h.hR.ne_type hB (by decide)) u,
    own_far h.hN hB (by decide) i u, h.hus, h.td, h.up.setCell h2 u⟩
/-- A store into a node's box. -/
theorem Cn.farN {B i : Nat} {cs : Array Value} (h : Cn g w0 GB PB PL OB RB c A vs0 vs vn us o w) (hB : Blk w B 62 cs) (h1 : some B ≠ vn.ownBlock) (h2 : w0.heap.size ≤ B) (u : Value) : Cn g w0 GB PB PL OB RB c A vs0 vs vn us o (w.setCell ⟨B, i, none⟩ u) :=
  ⟨h.hG.far (p := ⟨B, i, none⟩) (h.hG.ne_type hB (by decide)) u, h.hP.far (p := ⟨B, i, none⟩) (h.hP.ne_type hB (by decide)) u, h.hL.far (p := ⟨B, i, none⟩) (h.hL.ne_type hB (by decide)) u, h.hO.far (p := ⟨B, i, none⟩) (h.hO.ne_type hB (by decide)) u, h.hR.far (p := ⟨B, i, none⟩) (h.hR.ne_type hB (by decide)) u,
    World.ownsRow.kept h.hN (grownBy_setAt _ B _ _) (.inr (fun q => h1 q.symm)), h.hus, h.td, h.up.setCell h2 u⟩
/-- A store into a row of handles. -/
theorem Cn.farI {B i : Nat} {cs : Array Value} (h : Cn g w0 GB PB PL OB RB c A vs0 vs vn us o w) (hB : Blk w B 3 cs) (h2 : w0.heap.size ≤ B) (u : Value) : Cn g w0 GB PB PL OB RB c A vs0 vs vn us o (w.setCell ⟨B, i, none⟩ u) :=
  ⟨h.hG.far (p := ⟨B, i, none⟩) (h.hG.ne_type hB (by decide)) u, h.hP.far (p := ⟨B, i, none⟩) (h.hP.ne_type hB (by decide)) u, h.hL.far (p := ⟨B, i, none⟩) (h.hL.ne_type hB (by decide)) u, h.hO.far (p := ⟨B, i, none⟩) (h.hO.ne_type hB (by decide)) u, h.hR.far (p := ⟨B, i, none⟩) (h.hR.ne_type hB (by decide)) u,
    own_far h.hN hB (by decide) i u, h.hus, h.td, h.up.setCell h2 u⟩
theorem Told.snoc {n : Int} (ho : Told g o) (hi : inN g n) (hn : n ∉ o) : Told g (o ++ [n]) := ⟨by
  rw [List.nodup_append]
  exact ⟨ho.nd, by simp, fun a ha b hb e => hn (by rw [List.mem_singleton] at hb; subst hb; subst e; exact ha)⟩, fun m hm => by
  rcases List.mem_append.1 hm with x | x
  · exact ho.inn m x
  · rw [List.mem_singleton.1 x]; exact hi⟩
/-- A node comes: the row has grown, out's box and the node's place are told. -/
theorem Cn.new {wb wa : World} {y : Nat} {vn' u : Value} (X : Gx w0 GB PL OB) (h : Cn g w0 GB PB PL OB RB c A vs0 vs vn us o w) (k : Up w wb) (hy : y < g.1.length) (hn : (y : Int) + 1 ∉ o)
    (ha : wa.ownsRow w0.heap.size 62 4 vn' (o.length + 1) (nvs (o.map (ndOf g)) us ++ nvs [ndOf g ((y : Int) + 1)] [u])) (hg : wb.grownBy wa vn.ownBlock) (hl : vn'.ownBlock = vn.ownBlock ∨ vn'.ownBlock = some wb.heap.size) :
    Cn g w0 GB PB PL OB RB c A vs0 vs vn' (us ++ [u]) (o ++ [(y : Int) + 1]) ((wa.setCell ⟨OB, 0, none⟩ vn').setCell ⟨PL, y, none⟩ (.int .u64 ((o.length : Int) + 1))) ∧
    Kc PL OB vn.ownBlock w ((wa.setCell ⟨OB, 0, none⟩ vn').setCell ⟨PL, y, none⟩ (.int .u64 ((o.length : Int) + 1))) ∧ Nx w vn.ownBlock vn'.ownBlock ∧
    (∀ B t cs, w.heap.size ≤ B → Blk wb B t cs → Blk ((wa.setCell ⟨OB, 0, none⟩ vn').setCell ⟨PL, y, none⟩ (.int .u64 ((o.length : Int) + 1))) B t cs ∧ some B ≠ vn'.ownBlock) ∧
    Blk wa OB 25 #[vn, vs] ∧ Blk (wa.setCell ⟨OB, 0, none⟩ vn') OB 25 #[vn', vs] ∧ Blk (wa.setCell ⟨OB, 0, none⟩ vn') PL 26 (plc g.1.length o) := by
  have hb := h.upw k
  have e1 := hb.hG.grown hg (hb.no hb.hG (by decide))
  have e2 := hb.hP.grown hg (hb.no hb.hP (by decide))
  have e3 := hb.hL.grown hg (hb.no hb.hL (by decide))
  have e4 := hb.hO.grown hg (hb.no hb.hO (by decide))
  have e5 := hb.hR.grown hg (hb.no hb.hR (by decide))
  have uw : Up w0 wa := up_own (h.up.trans k) hb.hN hg
  have f1 := e1.far (p := ⟨OB, 0, none⟩) X.ne vn'
  have f2 := e2.far (p := ⟨OB, 0, none⟩) (e2.ne_type e4 (by decide)) vn'
  have f3 := e3.far (p := ⟨OB, 0, none⟩) (e3.ne_type e4 (by decide)) vn'
  have f4 : Blk (wa.setCell ⟨OB, 0, none⟩ vn') OB 25 #[vn', vs] := by simpa using e4.set_ 0 vn'
  have f5 := e5.far (p := ⟨OB, 0, none⟩) (e5.ne_type e4 (by decide)) vn'
  have fN := own_far ha e4 (by decide) 0 vn'
  have hkb : vn.ownBlock = none ∨ ∀ x, vn.ownBlock = some x → x < w.heap.size := .inr fun x e => (h.geB x e).2
  have hNx : Nx w vn.ownBlock vn'.ownBlock := by
    rcases hl with q | q
    · exact .inl q
    · exact .inr fun x e => by rw [q] at e; cases e; exact k.size
  have hol : OB < w.heap.size := h.hO.lt
  have hpl : PL < w.heap.size := h.hL.lt
  refine ⟨⟨f1.far (p := ⟨PL, y, none⟩) (f1.ne_type f3 (by decide)) _, f2.far (p := ⟨PL, y, none⟩) (f2.ne_type f3 (by decide)) _, ?_, f4.far (p := ⟨PL, y, none⟩) (f4.ne_type f3 (by decide)) _, f5.far (p := ⟨PL, y, none⟩) (f5.ne_type f3 (by decide)) _, ?_, by simp [h.hus], h.td.snoc ⟨by omega, by omega⟩ hn, (uw.setCell X.ob _).setCell X.pl _⟩, ?_, hNx, fun B t cs hB hblk => ?_, e4, f4, f3⟩
  · have := f3.set_ y (.int .u64 ((o.length : Int) + 1))
    rwa [plc_snoc hy hn] at this
  · have := own_far fN f3 (by decide) y (.int .u64 ((o.length : Int) + 1))
    rw [List.length_append, List.length_singleton, List.map_append, nvs_app _ _ _ _ (by rw [List.length_map]; exact h.hus)]
    exact this
  · exact (((Kc.of_up k).trans (Nx.refl _ _) (.of_gb hg)).setC (p := ⟨OB, 0, none⟩) (.inr (.inl rfl)) _).setC (p := ⟨PL, y, none⟩) (.inl rfl) _
  · have hne : some B ≠ vn.ownBlock := fun e => by have := (h.geB B e.symm).2; omega
    refine ⟨((hblk.grown hg hne).far (p := ⟨OB, 0, none⟩) (by show B ≠ OB; omega) _).far (p := ⟨PL, y, none⟩) (by show B ≠ PL; omega) _, ?_⟩
    rcases hl with q | q
    · rw [q]; exact hne
    · rw [q]; intro e; cases e; have := hblk.lt; omega
/-- A row of the call's own stays. -/
theorem own_kc {b : Option Nat} {n₀ n : Nat} {e : TypeId} {size : Nat} {v : Value} {xs : List Value} (h : w.ownsRow n₀ e size v n xs) (q : Kc PL OB b w w') (h1 : v.ownBlock ≠ some PL) (h2 : v.ownBlock ≠ some OB) (h3 : v.ownBlock = none ∨ v.ownBlock ≠ b) : w'.ownsRow n₀ e size v n xs := by
  refine ⟨h.1, h.2.imp id ?_⟩
  rintro ⟨g, cap, cur, rfl, hb, hg, r⟩
  refine ⟨g, cap, cur, rfl, hb, ?_, r⟩
  have e1 : (Value.slice (some ⟨g, 0, none⟩) n cap).ownBlock = some g := by simp [Value.ownBlock]
  rw [e1] at h1 h2 h3
  rw [q.block g (lt_of_get hg) (fun x => h1 (by rw [x])) (fun x => h2 (by rw [x])) (fun x => by
    rcases h3 with h3 | h3
    · cases h3
    · exact h3 x)]
  exact hg
/-- A row that stands in newer memory than the two blocks. -/
theorem own_new {n₀ n : Nat} {v : Value} {xs : List Value} (h : w.ownsRow n₀ 26 1 v n xs) (hC : Cn g w0 GB PB PL OB RB c A vs0 vs vn us o w) (q : Kc PL OB vn.ownBlock w w') (h1 : PL < n₀) (h2 : OB < n₀) : w'.ownsRow n₀ 26 1 v n xs := by
  refine own_kc h q (fun e => ?_) (fun e => ?_) ?_
  · have := (World.ownsRow.lt h _ e).1; omega
  · have := (World.ownsRow.lt h _ e).1; omega
  · rcases h.2 with ⟨rfl, _⟩ | ⟨g', cap, cur, rfl, _, hg, _⟩
    · exact .inl (by simp [Value.ownBlock])
    · refine .inr ?_
      have := hC.no (k := g') hg (by decide)
      simpa [Value.ownBlock] using this
end
/-! graph.Canon's closure: a node's fields, one after the other, plainly. -/

/-- A row of nodes takes one more; where it stands then. -/
theorem run_node {w : World} (ty : TypeId) (base n : Nat) (v : Value) (xs : List Value) (hx : w.ownsRow base 62 4 v n xs) (B c : Nat) (t l m u : Value) (hy : Blk w B 62 #[t, l, m, u]) (h1 : ∀ z ∈ [t, l, m, u], z.oneCell' = true) (hb : n ≤ 1048576) (hbase : base ≤ w.heap.size) :
    ∃ g cap w', (Builtin.append_ #[22, 22] ty #[v, .slice (some ⟨B, 0, none⟩) 1 c]).run Try.prog w = .ok (.slice (some ⟨g, 0, none⟩) (n + 1) cap) w' ∧ w'.ownsRow base 62 4 (.slice (some ⟨g, 0, none⟩) (n + 1) cap) (n + 1) (xs ++ [t, l, m, u]) ∧ w.grownBy w' v.ownBlock ∧
      ((Value.slice (some ⟨g, 0, none⟩) (n + 1) cap).ownBlock = v.ownBlock ∨ (Value.slice (some ⟨g, 0, none⟩) (n + 1) cap).ownBlock = some w.heap.size) := by
  obtain ⟨⟨i0, z, hi, hz0, hz1, hz2, hz3⟩, hu, hp, hs⟩ := el_node
  obtain ⟨p, e, hpl, hc⟩ := (rv_of_blk (vs := [t, l, m, u]) hy (fun j z hj => by simpa using hj)) (by simp)
  cases e
  obtain ⟨g, cap, w', r1, r2, r3, r4, _⟩ := run_append_lies (P := Try.prog) w 22 ty base 62 i0 z 4 48 hu hi hz0 hz1 hz2 hz3 hp v n xs hx ⟨B, 0, none⟩ 1 c [t, l, m, u] rfl hc h1 (by omega) (by unfold maxLen; omega) (by omega) hbase w.heap.size rfl
  refine ⟨g, cap, w', r1, r2, r3, ?_⟩
  rcases r4 with q | q
  · exact .inl (by rw [q]; simp [Value.ownBlock])
  · exact .inr (by rw [← q]; simp [Value.ownBlock])
theorem pre_new {o1 o2 : List Int} (h : o1 <+: o2) (hn : o2.Nodup) {k : Nat} {m : Int} (hk : o1.length ≤ k) (e : o2[k]? = some m) : m ∉ o1 := by
  obtain ⟨t, rfl⟩ := h
  rw [List.getElem?_append_right hk] at e
  have hm := List.mem_of_getElem? e
  rw [List.nodup_append] at hn
  exact fun q => hn.2.2 m q m hm rfl
theorem own_setfar {w : World} {n₀ n : Nat} {e : TypeId} {size : Nat} {v : Value} {xs : List Value} (h : w.ownsRow n₀ e size v n xs) {B : Nat} (hB : B < n₀) (i : Nat) (u : Value) : (w.setCell ⟨B, i, none⟩ u).ownsRow n₀ e size v n xs := by
  refine World.ownsRow.kept h (grownBy_setAt _ B _ _) ?_
  cases q : v.ownBlock with
  | none => exact .inl rfl
  | some k =>
    refine .inr fun z => ?_
    cases z
    have := (World.ownsRow.lt h _ q).1
    omega

/-- What one more that is reached leaves. -/
def RcPost (g : Gr) (w0 : World) (GB PB PL OB RB c : Nat) (A : Option Addr) (vs0 vs vn : Value) (us : List Value) (o o' : List Int) (n : Int) (w : World) (e : Ending) (w' : World) : Prop :=
  ∃ vn' us', e = .returned (.int .u64 (pl o' n)) ∧ Cn g w0 GB PB PL OB RB c A vs0 vs vn' us' o' w' ∧ Kc PL OB vn.ownBlock w w' ∧ Nx w vn.ownBlock vn'.ownBlock ∧ us <+: us' ∧
    ∀ k u m, o.length ≤ k → us'[k]? = some u → o'[k]? = some m → w'.ownsRow w.heap.size 26 1 u (ndOf g m).2.length ((mpF (pl o') (ndOf g m)).2.map (Value.int .u64))
def RcAll (g : Gr) (w0 : World) (GB PB PL OB RB c : Nat) (A : Option Addr) (vs0 vs : Value) (f : Nat) : Prop :=
  ∀ (n : Int) (vn : Value) (us : List Value) (o : List Int) (w : World), Cn g w0 GB PB PL OB RB c A vs0 vs vn us o w → g.1.length < f + o.length →
    Calls Try.prog 41 #[.int .u64 n, ptv GB, ptv PB, ptv OB, ptv RB] w (RcPost g w0 GB PB PL OB RB c A vs0 vs vn us o (vis g f n o) n w)
/-- A node's fields up to one. -/
structure Hf (g : Gr) (w0 : World) (GB PB PL OB RB c : Nat) (A : Option Addr) (vs0 vs : Value) (f y : Nat) (vn : Value) (us : List Value) (o : List Int) (w : World) (NB M : Nat) (Fv : Value) (nd : Nd) (x : Nat) (vn' : Value) (us' : List Value) (o' : List Int) (wr : World) : Prop where
  oe : o' = vall g f (pup nd x) (o ++ [(y : Int) + 1])
  cn : Cn g w0 GB PB PL OB RB c A vs0 vs vn' us' o' wr
  kc : Kc PL OB vn.ownBlock w wr
  nx : Nx w vn.ownBlock vn'.ownBlock
  pre : (us ++ [Fv]) <+: us'
  rows : ∀ k u m, o.length + 1 ≤ k → us'[k]? = some u → o'[k]? = some m → wr.ownsRow M 26 1 u (ndOf g m).2.length ((mpF (pl o') (ndOf g m)).2.map (Value.int .u64))
  own : wr.ownsRow w.heap.size 26 1 Fv nd.2.length ((half o' nd x).map (Value.int .u64))
  lt : ∀ k, Fv.ownBlock = some k → k < M
  nb : Blk wr NB 62 #[.int .i64 nd.1.1, .int .i64 nd.1.2.1, .int .u64 nd.1.2.2, Fv]
  ne : some NB ≠ vn'.ownBlock
  m : M ≤ wr.heap.size
/-- What is so at the beginning. -/
structure Hc (g : Gr) (w0 : World) (PL OB f y : Nat) (us : List Value) (o : List Int) (w : World) (NB M : Nat) (nd : Nd) : Prop where
  pl : PL < w.heap.size
  ob : OB < w.heap.size
  up : w0.heap.size ≤ w.heap.size
  nb : w.heap.size ≤ NB
  mw : w.heap.size ≤ M
  td : Told g o
  hus : us.length = o.length
  inn : inN g ((y : Int) + 1)
  no : (y : Int) + 1 ∉ o
  fu : g.1.length < f + 1 + o.length
  nd : nd = ndOf g ((y : Int) + 1)
section
variable {g : Gr} {w0 w wr w2 : World} {GB PB PL OB RB c f y NB M : Nat} {A : Option Addr} {vs0 vs vn vn' Fv : Value} {us us' : List Value} {o o' : List Int} {nd : Nd} {x : Nat}
theorem Hf.up (h : Hf g w0 GB PB PL OB RB c A vs0 vs f y vn us o w NB M Fv nd x vn' us' o' wr) (k : Up wr w2) : Hf g w0 GB PB PL OB RB c A vs0 vs f y vn us o w NB M Fv nd x vn' us' o' w2 :=
  ⟨h.oe, h.cn.upw k, h.kc.up k, h.nx, h.pre, fun a u m h1 h2 h3 => own_up (h.rows a u m h1 h2 h3) k, own_up h.own k, h.lt, h.nb.up k, h.ne, Nat.le_trans h.m k.size⟩
theorem Hc.told (H : Hc g w0 PL OB f y us o w NB M nd) : Told g (o ++ [(y : Int) + 1]) := H.td.snoc H.inn H.no
theorem Hc.more (H : Hc g w0 PL OB f y us o w NB M nd) (hs : List Int) : More g hs (o ++ [(y : Int) + 1]) (vall g f hs (o ++ [(y : Int) + 1])) :=
  vall_more (vis_more g f) hs _ H.told (by have := H.fu; simp; omega)
/-- No pointer: nothing is done. -/
theorem Hf.no (h : Hf g w0 GB PB PL OB RB c A vs0 vs f y vn us o w NB M Fv nd x vn' us' o' wr) (hp : isP nd (x : Int) = false) (k : Up wr w2) : Hf g w0 GB PB PL OB RB c A vs0 vs f y vn us o w NB M Fv nd (x + 1) vn' us' o' w2 := by
  have h2 := h.up k
  exact ⟨by rw [pup_no hp]; exact h.oe, h2.cn, h2.kc, h2.nx, h2.pre, h2.rows, by rw [half_no hp]; exact h2.own, h2.lt, h2.nb, h2.ne, h2.m⟩
/-- A pointer: what it leads to is reached, and the field is its place. -/
theorem Hf.yes (H : Hc g w0 PL OB f y us o w NB M nd) (h : Hf g w0 GB PB PL OB RB c A vs0 vs f y vn us o w NB M Fv nd x vn' us' o' wr) (hp : isP nd (x : Int) = true) (hx : x < nd.2.length) {v : Int} (hv : nd.2.getD x 0 = v) {e : Ending} (hC : RcPost g w0 GB PB PL OB RB c A vs0 vs vn' us' o' (vis g f (v) o') (v) wr e w2) {FB ln cf : Nat} (hFv : Fv = .slice (some ⟨FB, 0, none⟩) ln cf) :
    e = .returned (.int .u64 (pl (vis g f (v) o') (v))) ∧ Blk w2 NB 62 #[.int .i64 nd.1.1, .int .i64 nd.1.2.1, .int .u64 nd.1.2.2, Fv] ∧ (∃ cur, Blk w2 FB 26 cur ∧ x < cur.size) ∧
      ∃ vn2 us2, Hf g w0 GB PB PL OB RB c A vs0 vs f y vn us o w NB M Fv nd (x + 1) vn2 us2 (vis g f (v) o') (w2.setCell ⟨FB, x, none⟩ (.int .u64 (pl (vis g f (v) o') (v)))) := by
  subst hFv
  obtain ⟨vn2, us2, rfl, C2, K2, N2, P2, R2⟩ := hC
  have hpl := H.pl
  have hob := H.ob
  have hmw := H.mw
  have hnb := H.nb
  have hm := h.m
  have eFB : (Value.slice (some ⟨FB, 0, none⟩) ln cf).ownBlock = some FB := by simp [Value.ownBlock]
  have hFB : w.heap.size ≤ FB := (World.ownsRow.lt h.own FB eFB).1
  have hFM : FB < M := h.lt FB eFB
  obtain ⟨cur, hcur, hsz⟩ : ∃ cur, Blk wr FB 26 cur ∧ x < cur.size := by
    rcases h.own.2 with ⟨q, _⟩ | ⟨g', cap, cur, q, _, hg, q1, _, q2, _⟩
    · cases q
    · cases q; exact ⟨cur, hg, by omega⟩
  have hne := h.cn.no hcur (by decide)
  have hB2 : Blk w2 FB 26 cur := hcur.kc K2 (by omega) (by omega) hne
  have hNB2 := h.nb.kc K2 (by omega) (by omega) h.ne
  have o2 := own_kc h.own K2 (by rw [eFB]; intro q; cases q; omega) (by rw [eFB]; intro q; cases q; omega) (.inr (by rw [eFB]; exact hne))
  have MR := H.more (pup nd x)
  rw [← h.oe] at MR
  have hol : o.length + 1 ≤ o'.length := by have := MR.pre.length_le; simpa using this
  have fu2 : g.1.length < f + o'.length := by have := H.fu; omega
  have MV := vis_more g f v o' h.cn.td fu2
  refine ⟨rfl, hNB2, ⟨cur, hB2, hsz⟩, vn2, us2, ?_, C2.far hB2 (by omega) (by have := H.up; omega) _, (h.kc.trans h.nx K2).setC (p := ⟨FB, x, none⟩) (.inr (.inr hFB)) _, h.nx.trans h.kc.size N2, h.pre.trans P2, fun k u m h1 h2 h3 => ?_, ?_, h.lt, hNB2.far (p := ⟨FB, x, none⟩) (hNB2.ne_type hB2 (by decide)) _, N2.ne h.nb.lt h.ne, Nat.le_trans hm (by simpa using K2.size)⟩
  · rw [pup_yes hp, vall_app, vall_one, hv, ← h.oe]
  · rcases Nat.lt_or_ge k o'.length with q | q
    · have hu2 : us'[k]? = some u := by
        obtain ⟨t, rfl⟩ := P2
        rwa [List.getElem?_append_left (by rw [h.cn.hus]; exact q)] at h2
      have hm2 : o'[k]? = some m := by
        obtain ⟨t, ht⟩ := MV.pre
        rw [← ht, List.getElem?_append_left q] at h3
        exact h3
      have hr := h.rows k u m h1 hu2 hm2
      have hmo : m ∈ o' := List.mem_of_getElem? hm2
      have hmn : m ∉ o ++ [(y : Int) + 1] := pre_new MR.pre h.cn.td.nd (by simpa using h1) hm2
      rw [mp_pre h.cn.td C2.td MV.pre (MR.cl m hmo hmn)]
      exact own_setfar (own_new hr h.cn K2 (by omega) (by omega)) hFM _ _
    · exact own_setfar (own_le (R2 k u m q h2 h3) hm) hFM _ _
  · have e2 : half (vis g f v o') nd (x + 1) = (half o' nd x).set x (pl (vis g f v o') v) := by
      rw [← hv]
      refine half_yes hx hp fun j hj hpj => ?_
      have hjm : nd.2.getD j 0 ∈ pup nd x := List.mem_map.2 ⟨j, List.mem_filter.2 ⟨List.mem_range.2 hj, hpj⟩, rfl⟩
      rw [hv]
      by_cases q : inN g (nd.2.getD j 0)
      · exact pl_pre MV.pre (MR.hs _ hjm q)
      · rw [pl_out h.cn.td q, pl_out C2.td q]
    rw [e2, List.map_set]
    have ecap : ln = nd.2.length := by
      rcases h.own.2 with ⟨q, _⟩ | ⟨g', cap, cur', q, _⟩
      · cases q
      · cases q; rfl
    subst ecap
    exact (World.ownsRow.stored o2 x _).1
theorem pup_len {n : Nd} {i : Nat} (h : i = n.2.length) : pup n i = ptrs n := by subst h; exact pup_all n
/-- All fields are gone through. -/
theorem Hf.done (H : Hc g w0 PL OB f y us o w NB M nd) (h : Hf g w0 GB PB PL OB RB c A vs0 vs f y vn us o w NB M Fv nd x vn' us' o' wr) (hx : x = nd.2.length) :
    o' = vall g f (ptrs (ndOf g ((y : Int) + 1))) (o ++ [(y : Int) + 1]) ∧ RcPost g w0 GB PB PL OB RB c A vs0 vs vn us o o' ((y : Int) + 1) w (.returned (.int .u64 (pl o' ((y : Int) + 1)))) wr := by
  have e := h.oe
  rw [pup_len hx, H.nd] at e
  refine ⟨e, vn', us', rfl, h.cn, h.kc, h.nx, (List.prefix_append us [Fv]).trans h.pre, fun k u m h1 h2 h3 => ?_⟩
  rcases Nat.lt_or_ge o.length k with q | q
  · exact own_le (h.rows k u m q h2 h3) H.mw
  · obtain rfl : k = o.length := by omega
    have MR := H.more (ptrs (ndOf g ((y : Int) + 1)))
    rw [← e] at MR
    have hm : m = (y : Int) + 1 := by
      obtain ⟨t, ht⟩ := MR.pre
      rw [← ht, List.append_assoc, List.getElem?_append_right (Nat.le_refl _)] at h3
      simpa using h3.symm
    have hu : u = Fv := by
      obtain ⟨t, ht⟩ := h.pre
      rw [← ht, List.append_assoc, List.getElem?_append_right (by rw [H.hus]; exact Nat.le_refl _), H.hus] at h2
      simpa using h2.symm
    subst hm
    subst hu
    have := h.own
    rw [hx, half_all, H.nd] at this
    exact this
end
end Go.Proofs.Ytlocllcijncllaa
