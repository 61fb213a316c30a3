/- graph.Canon's closure: contracts. -/
import Derived.Test.YtanhhkdoejnpiaaGreatGc
/-! Of stage 15 -/
namespace Go.Proofs.YtanhhkdoejnpiaaGreat.G
open Go.Joins Go.ChangeShapes Go.WideShapes Go.ChangeAt Go.RowKit Go.Deep Go.Shelf Go.Maps
set_option linter.unusedVariables false
set_option linter.unusedSimpArgs false

abbrev ptv (B : Nat) : Value := .pointer (some ⟨B, 0, none⟩)
theorem reach_out (GB PB OB RB N c : Nat) (A : Option Addr) (vs0 : Value) (n : Int) (w : World) (hG : Blk w GB 30 #[.slice A N c, vs0]) (hN : N ≤ 9223372036854775807) (h : n < 1 ∨ (N : Int) < n) :
    Calls Tryz.prog 98 #[.int .u64 n, ptv GB, ptv PB, ptv OB, ptv RB] w fun e w' => e = .returned (.int .u64 0) ∧ w' = w := by
  have hc := hG.cell
  have hl := hG.lt
  clear hG
  by_cases h1 : n < 1
  · have d1 : decide (n < 1) = true := decide_eq_true h1
    go_enter Tryz.func98, Tryz.ntmps98
    go_wp2
    go_ret
    exact ⟨rfl, rfl⟩
  · have d1 : decide (n < 1) = false := decide_eq_false h1
    have d2 : decide (n > (N : Int)) = true := decide_eq_true (by omega)
    go_enter Tryz.func98, Tryz.ntmps98
    go_wp2
    go_ret
    exact ⟨rfl, rfl⟩
set_option maxRecDepth 100000 in
set_option maxHeartbeats 1000000 in
theorem reach_told (GB PB PL OB RB N c y : Nat) (A : Option Addr) (vs0 : Value) (x : Int) (w : World) (hG : Blk w GB 30 #[.slice A N c, vs0]) (hP : Blk w PB 22 #[.slice (some ⟨PL, 0, none⟩) N N]) (hx : w.cell? ⟨PL, y, none⟩ = some (.int .u64 x)) (hN : N ≤ 9223372036854775807) (hy : y < N) (h0 : x ≠ 0) :
    Calls Tryz.prog 98 #[.int .u64 ((y : Int) + 1), ptv GB, ptv PB, ptv OB, ptv RB] w fun e w' => e = .returned (.int .u64 x) ∧ w' = w := by
  have hc := hG.cell
  have hl := hG.lt
  have hpc := hP.cell
  have hpl := hP.lt
  have hb : (x == 0) = false := beq_eq_false_iff_ne.2 h0
  have d1 : decide ((y : Int) + 1 < 1) = false := decide_eq_false (by omega)
  have d2 : decide ((y : Int) + 1 > (N : Int)) = false := decide_eq_false (by omega)
  have hxl := lt_of_cell hx
  clear hG hP
  go_enter Tryz.func98, Tryz.ntmps98
  go_wp2
  go_ret
  exact ⟨rfl, rfl⟩

end Go.Proofs.YtanhhkdoejnpiaaGreat.G
/-! Of stage 15 -/
namespace Go.Proofs.YtanhhkdoejnpiaaGreat.G
open Go.Joins Go.ChangeShapes Go.WideShapes Go.ChangeAt Go.RowKit Go.Deep Go.Shelf Go.Maps
set_option linter.unusedVariables false
set_option linter.unusedSimpArgs false

/-- The places, as they stand in their row. -/
def plc (N : Nat) (o : List Int) : Array Value := ((List.range N).map fun (k : Nat) => Value.int .u64 (pl o ((k : Int) + 1))).toArray
theorem plc_at {N : Nat} (o : List Int) {k : Nat} (h : k < N) : (plc N o)[k]? = some (.int .u64 (pl o ((k : Int) + 1))) := by
  simp [plc, h]
theorem pl_snoc {o : List Int} {n : Int} (h : n ∉ o) : pl (o ++ [n]) n = (o.length : Int) + 1 := by
  unfold pl
  rw [if_pos (by simp), List.idxOf_append, if_neg h]
  simp
theorem pl_snoc_ne {o : List Int} {n m : Int} (h : m ≠ n) : pl (o ++ [n]) m = pl o m := by
  unfold pl
  by_cases k : m ∈ o
  · rw [if_pos k, if_pos (List.mem_append_left _ k), List.idxOf_append, if_pos k]
  · rw [if_neg k, if_neg (by simp [k, h])]
theorem plc_snoc {N y : Nat} {o : List Int} (hy : y < N) (h : (y : Int) + 1 ∉ o) : (plc N o).setIfInBounds y (.int .u64 ((o.length : Int) + 1)) = plc N (o ++ [(y : Int) + 1]) := by
  have hs : (plc N o).size = N := by simp [plc]
  apply Array.ext
  · simp [plc]
  · intro i h1 h2
    have hi : i < N := by simpa [plc] using h1
    have e2 : (plc N (o ++ [(y : Int) + 1]))[i] = .int .u64 (pl (o ++ [(y : Int) + 1]) ((i : Int) + 1)) := by
      have := plc_at (o ++ [(y : Int) + 1]) hi
      rw [Array.getElem?_eq_getElem h2] at this
      exact Option.some.inj this
    rw [e2]
    by_cases e : y = i
    · subst e
      rw [Array.getElem_setIfInBounds_self, pl_snoc h]
    · rw [Array.getElem_setIfInBounds_ne (by omega) e, pl_snoc_ne (by omega)]
      have := plc_at o hi
      rw [Array.getElem?_eq_getElem (by omega)] at this
      exact Option.some.inj this

/-- All is as it was but for two blocks and a row's own. -/
structure Kc (PL OB : Nat) (b : Option Nat) (w w' : World) : Prop where
  os : w'.os = w.os
  tape : w'.tape = w.tape
  output : w'.output = w.output
  size : w.heap.size ≤ w'.heap.size
  block : ∀ k, k < w.heap.size → k ≠ PL → k ≠ OB → some k ≠ b → w'.heap[k]? = w.heap[k]?
/-- A row is where it was, or in new memory. -/
def Nx (w : World) (b b' : Option Nat) : Prop := b' = b ∨ ∀ x, b' = some x → w.heap.size ≤ x
section
variable {PL OB : Nat} {b b' b'' : Option Nat} {w w' w'' : World}
theorem Nx.refl (w : World) (b : Option Nat) : Nx w b b := .inl rfl
theorem Nx.trans (h : Nx w b b') (hs : w.heap.size ≤ w'.heap.size) (k : Nx w' b' b'') : Nx w b b'' := by
  rcases k with rfl | k
  · exact h
  · exact .inr fun x e => Nat.le_trans hs (k x e)
theorem Nx.old (h : Nx w b b') (hs : w'.heap.size ≤ w.heap.size) : Nx w' b b' := by
  rcases h with rfl | k
  · exact .inl rfl
  · exact .inr fun x e => Nat.le_trans hs (k x e)
theorem Nx.ne (h : Nx w b b') {k : Nat} (hk : k < w.heap.size) (hb : some k ≠ b) : some k ≠ b' := by
  rcases h with rfl | q
  · exact hb
  · intro e
    have := q k e.symm
    omega
theorem Kc.of_up (h : Up w w') : Kc PL OB b w w' := ⟨h.os, h.tape, h.output, h.size, fun k hk _ _ _ => h.block k hk⟩
theorem Kc.refl (w : World) : Kc PL OB b w w := .of_up (Up.refl w)
theorem Kc.trans (h : Kc PL OB b w w') (n : Nx w b b') (k : Kc PL OB b' w' w'') : Kc PL OB b w w'' :=
  ⟨k.os.trans h.os, k.tape.trans h.tape, k.output.trans h.output, Nat.le_trans h.size k.size, fun i h1 h2 h3 h4 =>
    (k.block i (Nat.lt_of_lt_of_le h1 h.size) h2 h3 (n.ne h1 h4)).trans (h.block i h1 h2 h3 h4)⟩
theorem Kc.up (h : Kc PL OB b w w') (k : Up w' w'') : Kc PL OB b w w'' := h.trans (Nx.refl w b) (.of_up k)
theorem Kc.of_gb (h : w.grownBy w' b) : Kc PL OB b w w' := ⟨h.os, h.tape, h.output, h.size, fun k hk _ _ hb => h.block k hk hb⟩
theorem Kc.setC (h : Kc PL OB b w w') {p : Addr} (hp : p.block = PL ∨ p.block = OB ∨ w.heap.size ≤ p.block) (u : Value) : Kc PL OB b w (w'.setCell p u) :=
  ⟨h.os, h.tape, h.output, by simpa [World.setCell] using h.size, fun k hk h1 h2 h3 => (Below.heap_setCell w' p u k (by omega)).trans (h.block k hk h1 h2 h3)⟩
theorem _root_.Go.Proofs.YtanhhkdoejnpiaaGreat.Blk.kc {k : Nat} {t : TypeId} {cs : Array Value} (h : Blk w k t cs) (q : Kc PL OB b w w') (h1 : k ≠ PL) (h2 : k ≠ OB) (h3 : some k ≠ b) : Blk w' k t cs := (q.block k h.lt h1 h2 h3).trans h
end
abbrev rov (GB PB OB RB : Nat) : Value := .func (.func 98) #[] #[ptv GB, ptv PB, ptv OB, ptv RB]
/-- Where the closure's boxes lie. -/
structure Gx (w0 : World) (GB PL OB : Nat) : Prop where
  pl : w0.heap.size ≤ PL
  ob : w0.heap.size ≤ OB
  ne : GB ≠ OB
/-- What they hold. -/
structure Cn (g : Gr) (w0 : World) (GB PB PL OB RB c : Nat) (A : Option Addr) (vs0 vs vn : Value) (us : List Value) (o : List Int) (w : World) : Prop where
  hG : Blk w GB 30 #[.slice A g.1.length c, vs0]
  hP : Blk w PB 22 #[.slice (some ⟨PL, 0, none⟩) g.1.length g.1.length]
  hL : Blk w PL 67 (plc g.1.length o)
  hO : Blk w OB 30 #[vn, vs]
  hR : Blk w RB 78 #[rov GB PB OB RB]
  hN : w.ownsRow w0.heap.size 71 4 vn o.length (nvs (o.map (ndOf g)) us)
  hus : us.length = o.length
  td : Told g o
  up : Up w0 w
section
variable {g : Gr} {w0 w w' : World} {GB PB PL OB RB c : Nat} {A : Option Addr} {vs0 vs vn : Value} {us : List Value} {o : List Int}
theorem Cn.upw (h : Cn g w0 GB PB PL OB RB c A vs0 vs vn us o w) (k : Up w w') : Cn g w0 GB PB PL OB RB c A vs0 vs vn us o w' :=
  ⟨h.hG.up k, h.hP.up k, h.hL.up k, h.hO.up k, h.hR.up k, own_up h.hN k, h.hus, h.td, h.up.trans k⟩
theorem Cn.no {k : Nat} {t : TypeId} {cs : Array Value} (h : Cn g w0 GB PB PL OB RB c A vs0 vs vn us o w) (hb : Blk w k t cs) (ht : 71 ≠ t) : some k ≠ vn.ownBlock := own_row_ne h.hN hb ht
theorem Cn.geB (h : Cn g w0 GB PB PL OB RB c A vs0 vs vn us o w) : ∀ x, vn.ownBlock = some x → w0.heap.size ≤ x ∧ x < w.heap.size := fun x e => World.ownsRow.lt h.hN x e
/-- A store into new memory. -/
theorem Cn.far {B i : Nat} {cs : Array Value} (h : Cn g w0 GB PB PL OB RB c A vs0 vs vn us o w) (hB : Blk w B 67 cs) (h1 : B ≠ PL) (h2 : w0.heap.size ≤ B) (u : Value) : Cn g w0 GB PB PL OB RB c A vs0 vs vn us o (w.setCell ⟨B, i, none⟩ u) :=
  ⟨h.hG.far (p := ⟨B, i, none⟩) (h.hG.ne_type hB (by decide)) u, h.hP.far (p := ⟨B, i, none⟩) (h.hP.ne_type hB (by decide)) u, h.hL.far (p := ⟨B, i, none⟩) (fun e => h1 e.symm) u, h.hO.far (p := ⟨B, i, none⟩) (h.hO.ne_type hB (by decide)) u, h.hR.far (p := ⟨B, i, none⟩) (h.hR.ne_type hB (by decide)) u,
    own_far h.hN hB (by decide) i u, h.hus, h.td, h.up.setCell h2 u⟩
/-- A store into a node's box. -/
theorem Cn.farN {B i : Nat} {cs : Array Value} (h : Cn g w0 GB PB PL OB RB c A vs0 vs vn us o w) (hB : Blk w B 71 cs) (h1 : some B ≠ vn.ownBlock) (h2 : w0.heap.size ≤ B) (u : Value) : Cn g w0 GB PB PL OB RB c A vs0 vs vn us o (w.setCell ⟨B, i, none⟩ u) :=
  ⟨h.hG.far (p := ⟨B, i, none⟩) (h.hG.ne_type hB (by decide)) u, h.hP.far (p := ⟨B, i, none⟩) (h.hP.ne_type hB (by decide)) u, h.hL.far (p := ⟨B, i, none⟩) (h.hL.ne_type hB (by decide)) u, h.hO.far (p := ⟨B, i, none⟩) (h.hO.ne_type hB (by decide)) u, h.hR.far (p := ⟨B, i, none⟩) (h.hR.ne_type hB (by decide)) u,
    World.ownsRow.kept h.hN (grownBy_setAt _ B _ _) (.inr (fun q => h1 q.symm)), h.hus, h.td, h.up.setCell h2 u⟩
/-- A store into a row of handles. -/
theorem Cn.farI {B i : Nat} {cs : Array Value} (h : Cn g w0 GB PB PL OB RB c A vs0 vs vn us o w) (hB : Blk w B 3 cs) (h2 : w0.heap.size ≤ B) (u : Value) : Cn g w0 GB PB PL OB RB c A vs0 vs vn us o (w.setCell ⟨B, i, none⟩ u) :=
  ⟨h.hG.far (p := ⟨B, i, none⟩) (h.hG.ne_type hB (by decide)) u, h.hP.far (p := ⟨B, i, none⟩) (h.hP.ne_type hB (by decide)) u, h.hL.far (p := ⟨B, i, none⟩) (h.hL.ne_type hB (by decide)) u, h.hO.far (p := ⟨B, i, none⟩) (h.hO.ne_type hB (by decide)) u, h.hR.far (p := ⟨B, i, none⟩) (h.hR.ne_type hB (by decide)) u,
    own_far h.hN hB (by decide) i u, h.hus, h.td, h.up.setCell h2 u⟩
theorem Told.snoc {n : Int} (ho : Told g o) (hi : inN g n) (hn : n ∉ o) : Told g (o ++ [n]) := ⟨by
  rw [List.nodup_append]
  exact ⟨ho.nd, by simp, fun a ha b hb e => hn (by rw [List.mem_singleton] at hb; subst hb; subst e; exact ha)⟩, fun m hm => by
  rcases List.mem_append.1 hm with x | x
  · exact ho.inn m x
  · rw [List.mem_singleton.1 x]; exact hi⟩
/-- A node comes: the row has grown, out's box and the node's place are told. -/
theorem Cn.new {wb wa : World} {y : Nat} {vn' u : Value} (X : Gx w0 GB PL OB) (h : Cn g w0 GB PB PL OB RB c A vs0 vs vn us o w) (k : Up w wb) (hy : y < g.1.length) (hn : (y : Int) + 1 ∉ o)
    (ha : wa.ownsRow w0.heap.size 71 4 vn' (o.length + 1) (nvs (o.map (ndOf g)) us ++ nvs [ndOf g ((y : Int) + 1)] [u])) (hg : wb.grownBy wa vn.ownBlock) (hl : vn'.ownBlock = vn.ownBlock ∨ vn'.ownBlock = some wb.heap.size) :
    Cn g w0 GB PB PL OB RB c A vs0 vs vn' (us ++ [u]) (o ++ [(y : Int) + 1]) ((wa.setCell ⟨OB, 0, none⟩ vn').setCell ⟨PL, y, none⟩ (.int .u64 ((o.length : Int) + 1))) ∧
    Kc PL OB vn.ownBlock w ((wa.setCell ⟨OB, 0, none⟩ vn').setCell ⟨PL, y, none⟩ (.int .u64 ((o.length : Int) + 1))) ∧ Nx w vn.ownBlock vn'.ownBlock ∧
    (∀ B t cs, w.heap.size ≤ B → Blk wb B t cs → Blk ((wa.setCell ⟨OB, 0, none⟩ vn').setCell ⟨PL, y, none⟩ (.int .u64 ((o.length : Int) + 1))) B t cs ∧ some B ≠ vn'.ownBlock) ∧
    Blk wa OB 30 #[vn, vs] ∧ Blk (wa.setCell ⟨OB, 0, none⟩ vn') OB 30 #[vn', vs] ∧ Blk (wa.setCell ⟨OB, 0, none⟩ vn') PL 67 (plc g.1.length o) := by
  have hb := h.upw k
  have e1 := hb.hG.grown hg (hb.no hb.hG (by decide))
  have e2 := hb.hP.grown hg (hb.no hb.hP (by decide))
  have e3 := hb.hL.grown hg (hb.no hb.hL (by decide))
  have e4 := hb.hO.grown hg (hb.no hb.hO (by decide))
  have e5 := hb.hR.grown hg (hb.no hb.hR (by decide))
  have uw : Up w0 wa := up_own (h.up.trans k) hb.hN hg
  have f1 := e1.far (p := ⟨OB, 0, none⟩) X.ne vn'
  have f2 := e2.far (p := ⟨OB, 0, none⟩) (e2.ne_type e4 (by decide)) vn'
  have f3 := e3.far (p := ⟨OB, 0, none⟩) (e3.ne_type e4 (by decide)) vn'
  have f4 : Blk (wa.setCell ⟨OB, 0, none⟩ vn') OB 30 #[vn', vs] := by simpa using e4.set_ 0 vn'
  have f5 := e5.far (p := ⟨OB, 0, none⟩) (e5.ne_type e4 (by decide)) vn'
  have fN := own_far ha e4 (by decide) 0 vn'
  have hkb : vn.ownBlock = none ∨ ∀ x, vn.ownBlock = some x → x < w.heap.size := .inr fun x e => (h.geB x e).2
  have hNx : Nx w vn.ownBlock vn'.ownBlock := by
    rcases hl with q | q
    · exact .inl q
    · exact .inr fun x e => by rw [q] at e; cases e; exact k.size
  have hol : OB < w.heap.size := h.hO.lt
  have hpl : PL < w.heap.size := h.hL.lt
  refine ⟨⟨f1.far (p := ⟨PL, y, none⟩) (f1.ne_type f3 (by decide)) _, f2.far (p := ⟨PL, y, none⟩) (f2.ne_type f3 (by decide)) _, ?_, f4.far (p := ⟨PL, y, none⟩) (f4.ne_type f3 (by decide)) _, f5.far (p := ⟨PL, y, none⟩) (f5.ne_type f3 (by decide)) _, ?_, by simp [h.hus], h.td.snoc ⟨by omega, by omega⟩ hn, (uw.setCell X.ob _).setCell X.pl _⟩, ?_, hNx, fun B t cs hB hblk => ?_, e4, f4, f3⟩
  · have := f3.set_ y (.int .u64 ((o.length : Int) + 1))
    rwa [plc_snoc hy hn] at this
  · have := own_far fN f3 (by decide) y (.int .u64 ((o.length : Int) + 1))
    rw [List.length_append, List.length_singleton, List.map_append, nvs_app _ _ _ _ (by rw [List.length_map]; exact h.hus)]
    exact this
  · exact (((Kc.of_up k).trans (Nx.refl _ _) (.of_gb hg)).setC (p := ⟨OB, 0, none⟩) (.inr (.inl rfl)) _).setC (p := ⟨PL, y, none⟩) (.inl rfl) _
  · have hne : some B ≠ vn.ownBlock := fun e => by have := (h.geB B e.symm).2; omega
    refine ⟨((hblk.grown hg hne).far (p := ⟨OB, 0, none⟩) (by show B ≠ OB; omega) _).far (p := ⟨PL, y, none⟩) (by show B ≠ PL; omega) _, ?_⟩
    rcases hl with q | q
    · rw [q]; exact hne
    · rw [q]; intro e; cases e; have := hblk.lt; omega
/-- A row of the call's own stays. -/
theorem own_kc {b : Option Nat} {n₀ n : Nat} {e : TypeId} {size : Nat} {v : Value} {xs : List Value} (h : w.ownsRow n₀ e size v n xs) (q : Kc PL OB b w w') (h1 : v.ownBlock ≠ some PL) (h2 : v.ownBlock ≠ some OB) (h3 : v.ownBlock = none ∨ v.ownBlock ≠ b) : w'.ownsRow n₀ e size v n xs := by
  refine ⟨h.1, h.2.imp id ?_⟩
  rintro ⟨g, cap, cur, rfl, hb, hg, r⟩
  refine ⟨g, cap, cur, rfl, hb, ?_, r⟩
  have e1 : (Value.slice (some ⟨g, 0, none⟩) n cap).ownBlock = some g := by simp [Value.ownBlock]
  rw [e1] at h1 h2 h3
  rw [q.block g (lt_of_get hg) (fun x => h1 (by rw [x])) (fun x => h2 (by rw [x])) (fun x => by
    rcases h3 with h3 | h3
    · cases h3
    · exact h3 x)]
  exact hg
/-- A row that stands in newer memory than the two blocks. -/
theorem own_new {n₀ n : Nat} {v : Value} {xs : List Value} (h : w.ownsRow n₀ 67 1 v n xs) (hC : Cn g w0 GB PB PL OB RB c A vs0 vs vn us o w) (q : Kc PL OB vn.ownBlock w w') (h1 : PL < n₀) (h2 : OB < n₀) : w'.ownsRow n₀ 67 1 v n xs := by
  refine own_kc h q (fun e => ?_) (fun e => ?_) ?_
  · have := (World.ownsRow.lt h _ e).1; omega
  · have := (World.ownsRow.lt h _ e).1; omega
  · rcases h.2 with ⟨rfl, _⟩ | ⟨g', cap, cur, rfl, _, hg, _⟩
    · exact .inl (by simp [Value.ownBlock])
    · refine .inr ?_
      have := hC.no (k := g') hg (by decide)
      simpa [Value.ownBlock] using this
end
/-! graph.Canon's closure: a node's fields, one after the other, plainly. -/

/-- A row of nodes takes one more; where it stands then. -/
theorem run_node {w : World} (ty : TypeId) (base n : Nat) (v : Value) (xs : List Value) (hx : w.ownsRow base 71 4 v n xs) (B c : Nat) (t l m u : Value) (hy : Blk w B 71 #[t, l, m, u]) (h1 : ∀ z ∈ [t, l, m, u], z.oneCell' = true) (hb : n ≤ 1048576) (hbase : base ≤ w.heap.size) :
    ∃ g cap w', (Builtin.append_ #[27, 27] ty #[v, .slice (some ⟨B, 0, none⟩) 1 c]).run Tryz.prog w = .ok (.slice (some ⟨g, 0, none⟩) (n + 1) cap) w' ∧ w'.ownsRow base 71 4 (.slice (some ⟨g, 0, none⟩) (n + 1) cap) (n + 1) (xs ++ [t, l, m, u]) ∧ w.grownBy w' v.ownBlock ∧
      ((Value.slice (some ⟨g, 0, none⟩) (n + 1) cap).ownBlock = v.ownBlock ∨ (Value.slice (some ⟨g, 0, none⟩) (n + 1) cap).ownBlock = some w.heap.size) := by
  obtain ⟨⟨i0, z, hi, hz0, hz1, hz2, hz3⟩, hu, hp, hs⟩ := el_node
  obtain ⟨p, e, hpl, hc⟩ := (rv_of_blk (vs := [t, l, m, u]) hy (fun j z hj => by simpa using hj)) (by simp)
  cases e
  obtain ⟨g, cap, w', r1, r2, r3, r4, _⟩ := run_append_lies (P := Tryz.prog) w 27 ty base 71 i0 z 4 48 hu hi hz0 hz1 hz2 hz3 hp v n xs hx ⟨B, 0, none⟩ 1 c [t, l, m, u] rfl hc h1 (by omega) (by unfold maxLen; omega) (by omega) hbase w.heap.size rfl
  refine ⟨g, cap, w', r1, r2, r3, ?_⟩
  rcases r4 with q | q
  · exact .inl (by rw [q]; simp [Value.ownBlock])
  · exact .inr (by rw [← q]; simp [Value.ownBlock])
theorem pre_new {o1 o2 : List Int} (h : o1 <+: o2) (hn : o2.Nodup) {k : Nat} {m : Int} (hk : o1.length ≤ k) (e : o2[k]? = some m) : m ∉ o1 := by
  obtain ⟨t, rfl⟩ := h
  rw [List.getElem?_append_right hk] at e
  have hm := List.mem_of_getElem? e
  rw [List.nodup_append] at hn
  exact fun q => hn.2.2 m q m hm rfl
theorem own_setfar {w : World} {n₀ n : Nat} {e : TypeId} {size : Nat} {v : Value} {xs : List Value} (h : w.ownsRow n₀ e size v n xs) {B : Nat} (hB : B < n₀) (i : Nat) (u : Value) : (w.setCell ⟨B, i, none⟩ u).ownsRow n₀ e size v n xs := by
  refine World.ownsRow.kept h (grownBy_setAt _ B _ _) ?_
  cases q : v.ownBlock with
  | none => exact .inl rfl
  | some k =>
    refine .inr fun z => ?_
    cases z
    have := (World.ownsRow.lt h _ q).1
    omega

/-- What one more that is reached leaves. -/
def RcPost (g : Gr) (w0 : World) (GB PB PL OB RB c : Nat) (A : Option Addr) (vs0 vs vn : Value) (us : List Value) (o o' : List Int) (n : Int) (w : World) (e : Ending) (w' : World) : Prop :=
  ∃ vn' us', e = .returned (.int .u64 (pl o' n)) ∧ Cn g w0 GB PB PL OB RB c A vs0 vs vn' us' o' w' ∧ Kc PL OB vn.ownBlock w w' ∧ Nx w vn.ownBlock vn'.ownBlock ∧ us <+: us' ∧
    ∀ k u m, o.length ≤ k → us'[k]? = some u → o'[k]? = some m → w'.ownsRow w.heap.size 67 1 u (ndOf g m).2.length ((mpF (pl o') (ndOf g m)).2.map (Value.int .u64))
def RcAll (g : Gr) (w0 : World) (GB PB PL OB RB c : Nat) (A : Option Addr) (vs0 vs : Value) (f : Nat) : Prop :=
  ∀ (n : Int) (vn : Value) (us : List Value) (o : List Int) (w : World), Cn g w0 GB PB PL OB RB c A vs0 vs vn us o w → g.1.length < f + o.length →
    Calls Tryz.prog 98 #[.int .u64 n, ptv GB, ptv PB, ptv OB, ptv RB] w (RcPost g w0 GB PB PL OB RB c A vs0 vs vn us o (vis g f n o) n w)
/-- A node's fields up to one. -/
structure Hf (g : Gr) (w0 : World) (GB PB PL OB RB c : Nat) (A : Option Addr) (vs0 vs : Value) (f y : Nat) (vn : Value) (us : List Value) (o : List Int) (w : World) (NB M : Nat) (Fv : Value) (nd : Nd) (x : Nat) (vn' : Value) (us' : List Value) (o' : List Int) (wr : World) : Prop where
  oe : o' = vall g f (pup nd x) (o ++ [(y : Int) + 1])
  cn : Cn g w0 GB PB PL OB RB c A vs0 vs vn' us' o' wr
  kc : Kc PL OB vn.ownBlock w wr
  nx : Nx w vn.ownBlock vn'.ownBlock
  pre : (us ++ [Fv]) <+: us'
  rows : ∀ k u m, o.length + 1 ≤ k → us'[k]? = some u → o'[k]? = some m → wr.ownsRow M 67 1 u (ndOf g m).2.length ((mpF (pl o') (ndOf g m)).2.map (Value.int .u64))
  own : wr.ownsRow w.heap.size 67 1 Fv nd.2.length ((half o' nd x).map (Value.int .u64))
  lt : ∀ k, Fv.ownBlock = some k → k < M
  nb : Blk wr NB 71 #[.int .i64 nd.1.1, .int .i64 nd.1.2.1, .int .u64 nd.1.2.2, Fv]
  ne : some NB ≠ vn'.ownBlock
  m : M ≤ wr.heap.size
/-- What is so at the beginning. -/
structure Hc (g : Gr) (w0 : World) (PL OB f y : Nat) (us : List Value) (o : List Int) (w : World) (NB M : Nat) (nd : Nd) : Prop where
  pl : PL < w.heap.size
  ob : OB < w.heap.size
  up : w0.heap.size ≤ w.heap.size
  nb : w.heap.size ≤ NB
  mw : w.heap.size ≤ M
  td : Told g o
  hus : us.length = o.length
  inn : inN g ((y : Int) + 1)
  no : (y : Int) + 1 ∉ o
  fu : g.1.length < f + 1 + o.length
  nd : nd = ndOf g ((y : Int) + 1)
section
variable {g : Gr} {w0 w wr w2 : World} {GB PB PL OB RB c f y NB M : Nat} {A : Option Addr} {vs0 vs vn vn' Fv : Value} {us us' : List Value} {o o' : List Int} {nd : Nd} {x : Nat}
theorem Hf.up (h : Hf g w0 GB PB PL OB RB c A vs0 vs f y vn us o w NB M Fv nd x vn' us' o' wr) (k : Up wr w2) : Hf g w0 GB PB PL OB RB c A vs0 vs f y vn us o w NB M Fv nd x vn' us' o' w2 :=
  ⟨h.oe, h.cn.upw k, h.kc.up k, h.nx, h.pre, fun a u m h1 h2 h3 => own_up (h.rows a u m h1 h2 h3) k, own_up h.own k, h.lt, h.nb.up k, h.ne, Nat.le_trans h.m k.size⟩
theorem Hc.told (H : Hc g w0 PL OB f y us o w NB M nd) : Told g (o ++ [(y : Int) + 1]) := H.td.snoc H.inn H.no
theorem Hc.more (H : Hc g w0 PL OB f y us o w NB M nd) (hs : List Int) : More g hs (o ++ [(y : Int) + 1]) (vall g f hs (o ++ [(y : Int) + 1])) :=
  vall_more (vis_more g f) hs _ H.told (by have := H.fu; simp; omega)
/-- No pointer: nothing is done. -/
theorem Hf.no (h : Hf g w0 GB PB PL OB RB c A vs0 vs f y vn us o w NB M Fv nd x vn' us' o' wr) (hp : isP nd (x : Int) = false) (k : Up wr w2) : Hf g w0 GB PB PL OB RB c A vs0 vs f y vn us o w NB M Fv nd (x + 1) vn' us' o' w2 := by
  have h2 := h.up k
  exact ⟨by rw [pup_no hp]; exact h.oe, h2.cn, h2.kc, h2.nx, h2.pre, h2.rows, by rw [half_no hp]; exact h2.own, h2.lt, h2.nb, h2.ne, h2.m⟩
/-- A pointer: what it leads to is reached, and the field is its place. -/
theorem Hf.yes (H : Hc g w0 PL OB f y us o w NB M nd) (h : Hf g w0 GB PB PL OB RB c A vs0 vs f y vn us o w NB M Fv nd x vn' us' o' wr) (hp : isP nd (x : Int) = true) (hx : x < nd.2.length) {v : Int} (hv : nd.2.getD x 0 = v) {e : Ending} (hC : RcPost g w0 GB PB PL OB RB c A vs0 vs vn' us' o' (vis g f (v) o') (v) wr e w2) {FB ln cf : Nat} (hFv : Fv = .slice (some ⟨FB, 0, none⟩) ln cf) :
    e = .returned (.int .u64 (pl (vis g f (v) o') (v))) ∧ Blk w2 NB 71 #[.int .i64 nd.1.1, .int .i64 nd.1.2.1, .int .u64 nd.1.2.2, Fv] ∧ (∃ cur, Blk w2 FB 67 cur ∧ x < cur.size) ∧
      ∃ vn2 us2, Hf g w0 GB PB PL OB RB c A vs0 vs f y vn us o w NB M Fv nd (x + 1) vn2 us2 (vis g f (v) o') (w2.setCell ⟨FB, x, none⟩ (.int .u64 (pl (vis g f (v) o') (v)))) := by
  subst hFv
  obtain ⟨vn2, us2, rfl, C2, K2, N2, P2, R2⟩ := hC
  have hpl := H.pl
  have hob := H.ob
  have hmw := H.mw
  have hnb := H.nb
  have hm := h.m
  have eFB : (Value.slice (some ⟨FB, 0, none⟩) ln cf).ownBlock = some FB := by simp [Value.ownBlock]
  have hFB : w.heap.size ≤ FB := (World.ownsRow.lt h.own FB eFB).1
  have hFM : FB < M := h.lt FB eFB
  obtain ⟨cur, hcur, hsz⟩ : ∃ cur, Blk wr FB 67 cur ∧ x < cur.size := by
    rcases h.own.2 with ⟨q, _⟩ | ⟨g', cap, cur, q, _, hg, q1, _, q2, _⟩
    · cases q
    · cases q; exact ⟨cur, hg, by omega⟩
  have hne := h.cn.no hcur (by decide)
  have hB2 : Blk w2 FB 67 cur := hcur.kc K2 (by omega) (by omega) hne
  have hNB2 := h.nb.kc K2 (by omega) (by omega) h.ne
  have o2 := own_kc h.own K2 (by rw [eFB]; intro q; cases q; omega) (by rw [eFB]; intro q; cases q; omega) (.inr (by rw [eFB]; exact hne))
  have MR := H.more (pup nd x)
  rw [← h.oe] at MR
  have hol : o.length + 1 ≤ o'.length := by have := MR.pre.length_le; simpa using this
  have fu2 : g.1.length < f + o'.length := by have := H.fu; omega
  have MV := vis_more g f v o' h.cn.td fu2
  refine ⟨rfl, hNB2, ⟨cur, hB2, hsz⟩, vn2, us2, ?_, C2.far hB2 (by omega) (by have := H.up; omega) _, (h.kc.trans h.nx K2).setC (p := ⟨FB, x, none⟩) (.inr (.inr hFB)) _, h.nx.trans h.kc.size N2, h.pre.trans P2, fun k u m h1 h2 h3 => ?_, ?_, h.lt, hNB2.far (p := ⟨FB, x, none⟩) (hNB2.ne_type hB2 (by decide)) _, N2.ne h.nb.lt h.ne, Nat.le_trans hm (by simpa using K2.size)⟩
  · rw [pup_yes hp, vall_app, vall_one, hv, ← h.oe]
  · rcases Nat.lt_or_ge k o'.length with q | q
    · have hu2 : us'[k]? = some u := by
        obtain ⟨t, rfl⟩ := P2
        rwa [List.getElem?_append_left (by rw [h.cn.hus]; exact q)] at h2
      have hm2 : o'[k]? = some m := by
        obtain ⟨t, ht⟩ := MV.pre
        rw [← ht, List.getElem?_append_left q] at h3
        exact h3
      have hr := h.rows k u m h1 hu2 hm2
      have hmo : m ∈ o' := List.mem_of_getElem? hm2
      have hmn : m ∉ o ++ [(y : Int) + 1] := pre_new MR.pre h.cn.td.nd (by simpa using h1) hm2
      rw [mp_pre h.cn.td C2.td MV.pre (MR.cl m hmo hmn)]
      exact own_setfar (own_new hr h.cn K2 (by omega) (by omega)) hFM _ _
    · exact own_setfar (own_le (R2 k u m q h2 h3) hm) hFM _ _
  · have e2 : half (vis g f v o') nd (x + 1) = (half o' nd x).set x (pl (vis g f v o') v) := by
      rw [← hv]
      refine half_yes hx hp fun j hj hpj => ?_
      have hjm : nd.2.getD j 0 ∈ pup nd x := List.mem_map.2 ⟨j, List.mem_filter.2 ⟨List.mem_range.2 hj, hpj⟩, rfl⟩
      rw [hv]
      by_cases q : inN g (nd.2.getD j 0)
      · exact pl_pre MV.pre (MR.hs _ hjm q)
      · rw [pl_out h.cn.td q, pl_out C2.td q]
    rw [e2, List.map_set]
    have ecap : ln = nd.2.length := by
      rcases h.own.2 with ⟨q, _⟩ | ⟨g', cap, cur', q, _⟩
      · cases q
      · cases q; rfl
    subst ecap
    exact (World.ownsRow.stored o2 x _).1
theorem pup_len {n : Nd} {i : Nat} (h : i = n.2.length) : pup n i = ptrs n := by subst h; exact pup_all n
/-- All fields are gone through. -/
theorem Hf.done (H : Hc g w0 PL OB f y us o w NB M nd) (h : Hf g w0 GB PB PL OB RB c A vs0 vs f y vn us o w NB M Fv nd x vn' us' o' wr) (hx : x = nd.2.length) :
    o' = vall g f (ptrs (ndOf g ((y : Int) + 1))) (o ++ [(y : Int) + 1]) ∧ RcPost g w0 GB PB PL OB RB c A vs0 vs vn us o o' ((y : Int) + 1) w (.returned (.int .u64 (pl o' ((y : Int) + 1)))) wr := by
  have e := h.oe
  rw [pup_len hx, H.nd] at e
  refine ⟨e, vn', us', rfl, h.cn, h.kc, h.nx, (List.prefix_append us [Fv]).trans h.pre, fun k u m h1 h2 h3 => ?_⟩
  rcases Nat.lt_or_ge o.length k with q | q
  · exact own_le (h.rows k u m q h2 h3) H.mw
  · obtain rfl : k = o.length := by omega
    have MR := H.more (ptrs (ndOf g ((y : Int) + 1)))
    rw [← e] at MR
    have hm : m = (y : Int) + 1 := by
      obtain ⟨t, ht⟩ := MR.pre
      rw [← ht, List.append_assoc, List.getElem?_append_right (Nat.le_refl _)] at h3
      simpa using h3.symm
    have hu : u = Fv := by
      obtain ⟨t, ht⟩ := h.pre
      rw [← ht, List.append_assoc, List.getElem?_append_right (by rw [H.hus]; exact Nat.le_refl _), H.hus] at h2
      simpa using h2.symm
    subst hm
    subst hu
    have := h.own
    rw [hx, half_all, H.nd] at this
    exact this
end

end Go.Proofs.YtanhhkdoejnpiaaGreat.G
/-! Of stage 15 -/
namespace Go.Proofs.YtanhhkdoejnpiaaGreat.G
open Go.Joins Go.ChangeShapes Go.WideShapes Go.ChangeAt Go.RowKit Go.Deep Go.Shelf Go.Maps
set_option linter.unusedVariables false
set_option linter.unusedSimpArgs false

def UpR (g : Gr) (w0 : World) (GB PB PL OB RB c : Nat) (A : Option Addr) (vs0 vs : Value) (f y : Nat) (vn : Value) (us : List Value) (o : List Int) (w : World) (NB M : Nat) (Fv : Value) (nd : Nd) (i : Value) (wr : World) : Prop :=
  ∃ x vn' us' o', x ≤ nd.2.length ∧ i = .int .i64 (x : Nat) ∧ Hf g w0 GB PB PL OB RB c A vs0 vs f y vn us o w NB M Fv nd x vn' us' o' wr
set_option maxRecDepth 100000 in
set_option maxHeartbeats 4000000 in
theorem reach_new (g : Gr) (w0 : World) (GB PB PL OB RB c : Nat) (A : Option Addr) (vs0 vs : Value) (X : Gx w0 GB PL OB) (hns : Ns w0 (.slice A g.1.length c) g.1) (hR : Rg g) (hN1 : g.1.length ≤ 1000) (f : Nat) (ih : RcAll g w0 GB PB PL OB RB c A vs0 vs f)
    (y : Nat) (vn : Value) (us : List Value) (o : List Int) (w : World) (hC : Cn g w0 GB PB PL OB RB c A vs0 vs vn us o w) (hy : y < g.1.length) (hno : (y : Int) + 1 ∉ o) (hf : g.1.length < f + 1 + o.length) :
    Calls Tryz.prog 98 #[.int .u64 ((y : Int) + 1), ptv GB, ptv PB, ptv OB, ptv RB] w (RcPost g w0 GB PB PL OB RB c A vs0 vs vn us o (vall g f (ptrs (ndOf g ((y : Int) + 1))) (o ++ [(y : Int) + 1])) ((y : Int) + 1) w) := by
  obtain ⟨us0, hns⟩ := hns
  obtain ⟨p, u, rfl, -, ⟨z0, z1, z2, z3⟩, hsl⟩ := (hns.up hC.up).at_ hy
  have hin : inN g ((y : Int) + 1) := ⟨by omega, by omega⟩
  obtain ⟨nd, hnd⟩ : ∃ nd, nd = ndOf g ((y : Int) + 1) := ⟨_, rfl⟩
  have hnd2 : g.1.getD y ((0, 0, 0), []) = nd := by rw [hnd]; unfold ndOf; rw [show ((y : Int) + 1).toNat - 1 = y from by omega]
  rw [hnd2] at z0 z1 z2 hsl
  have hmem : nd ∈ g.1 := by rw [hnd]; exact ndOf_mem hin
  have hmp := hR.mp nd hmem
  have hl16 : nd.2.length ≤ 16 := by have h1 := hR.hd nd hmem; have h2 := okH_len h1.1; omega
  have hol : o.length ≤ 1000 := by have := hC.td.len; omega
  obtain ⟨Au, cu, rfl⟩ := hsl.slice
  obtain ⟨-, hrv, hnc, hcm, hAu⟩ := hsl.rv
  have HCL := Lib.hid (fun w' (k : Up w w') => clone_u64 Au nd.2.length cu (nd.2.map (Value.int .u64)) w' hAu hnc (by simp) (hrv.up k) (one_ints _ _) (by omega))
  have HP := Lib.hid (fun (x : Nat) (hx : x < nd.2.length) w' => ptr_any nd.1.1 nd.1.2.1 nd.1.2.2 (x : Int) hmp.1 hmp.2 (by omega) w')
  have HCN := Lib.hid hC
  have HND := Lib.hid hnd
  have HH : ∀ NB M, w.heap.size ≤ NB → w.heap.size ≤ M → Hc g w0 PL OB f y us o w NB M nd := fun NB M h1 h2 => ⟨hC.hL.lt, hC.hO.lt, hC.up.size, h1, h2, hC.td, hC.hus, hin, hno, hf, hnd⟩
  have HH := Lib.hid HH
  have HX := Lib.hid ih
  have HNO := Lib.hid hno
  have hcG := hC.hG.cell
  have hlG := hC.hG.lt
  have hcP := hC.hP.cell
  have hlP := hC.hP.lt
  have hcy : w.cell? ⟨PL, y, none⟩ = some (.int .u64 0) := by
    rw [hC.hL.cell, plc_at o hy]
    unfold pl
    rw [if_neg hno]
  have hly := hC.hL.lt
  have hqb := lt_of_cell z3
  have d1 : decide ((y : Int) + 1 < 1) = false := decide_eq_false (by omega)
  have d2 : decide ((y : Int) + 1 > (g.1.length : Int)) = false := decide_eq_false (by omega)
  clear hnd hnd2 hC hno hf ih hR hns hsl hrv hnc hcm hAu hin hmem hmp
  go_enter Tryz.func98, Tryz.ntmps98
  have HX0 := Lib.hid X
  have UB := Lib.hid ((Up.refl w).alloc (.cells #[.int .i64 nd.1.1, .int .i64 nd.1.2.1, .int .u64 nd.1.2.2, .slice Au nd.2.length cu] 71))
  clear X
  go_wp2_with (fail)
  refine (HCL.out _ UB.out).mono ?_
  rintro e w1 ⟨v1, rfl, ho1, hU1⟩
  obtain ⟨A1, c1, rfl⟩ := own_slice ho1
  have U1 := UB.out.trans hU1
  have C1 := HCN.out.upw U1
  have N1 := (Blk.new w 71 #[.int .i64 nd.1.1, .int .i64 nd.1.2.1, .int .u64 nd.1.2.2, .slice Au nd.2.length cu]).up hU1
  have hne1 : some w.heap.size ≠ vn.ownBlock := fun e => by have := (HCN.out.geB _ e.symm).2; omega
  have hup := HCN.out.up.size
  have C2 := C1.farN (i := 3) N1 hne1 hup (.slice A1 nd.2.length c1)
  have N2 : Blk (w1.setCell ⟨w.heap.size, 3, none⟩ (.slice A1 nd.2.length c1)) w.heap.size 71 #[.int .i64 nd.1.1, .int .i64 nd.1.2.1, .int .u64 nd.1.2.2, .slice A1 nd.2.length c1] := by simpa using N1.set_ 3 (.slice A1 nd.2.length c1)
  have o2 := own_le (own_far ho1 N1 (by decide) 3 (.slice A1 nd.2.length c1)) (n₁ := w.heap.size) (by simp)
  have hlt1 := World.ownsRow.lt o2
  have U2 : Up w (w1.setCell ⟨w.heap.size, 3, none⟩ (.slice A1 nd.2.length c1)) := U1.setCell (Nat.le_refl _) _
  obtain ⟨gN, cap, wa, hrun, hoa, hga, hla⟩ := run_node (w := (w1.setCell ⟨w.heap.size, 3, none⟩ (.slice A1 nd.2.length c1)).alloc (.cells #[.int .i64 nd.1.1, .int .i64 nd.1.2.1, .int .u64 nd.1.2.2, .slice A1 nd.2.length c1] 71)) 27 w0.heap.size o.length vn _ (C2.upw ((Up.refl _).alloc _)).hN w1.heap.size 1 (.int .i64 nd.1.1) (.int .i64 nd.1.2.1) (.int .u64 nd.1.2.2) (.slice A1 nd.2.length c1) (Blk.new' _ (by simp) _ _)
    (by intro z hz; simp only [List.mem_cons, List.not_mem_nil, or_false] at hz; rcases hz with rfl | rfl | rfl | rfl <;> rfl) (by omega) (Nat.le_trans hup (U2.alloc _).size)
  obtain ⟨C3, K3, X3, B3, b4, b5, b6⟩ := Cn.new HX0.out HCN.out (U2.alloc _) hy HNO.out (by rw [← HND.out]; exact hoa) hga hla
  have hcO2 := C2.hO.cell
  have hlO2 := C2.hO.lt
  have hcN2 := N2.cell
  have hlN2 := N2.lt
  have hcOa := b4.cell
  have hfOa := b4.frozen
  have hlOa := b4.lt
  have hcOb := b5.cell
  have hfP := b6.frozen
  have hcP2 := (b6.cell y).trans ((plc_at o hy).trans (show some (Value.int .u64 (pl o ((y : Int) + 1))) = some (.int .u64 0) from by unfold pl; rw [if_neg HNO.out]))
  have hlP2 := b6.lt
  have hlOb := b5.lt
  have NB3 := (B3 _ _ _ (Nat.le_refl _) (N2.alloc _)).1
  have hcN3 := NB3.cell
  have hlN3 := NB3.lt
  have hN1c := N1.cell
  have hN1f := N1.frozen
  have hN1l := N1.lt
  clear hcG hlG hcP hlP hcy hly z0 z1 z2 z3
  go_wp2_with (at_builtin; refine Lib.wpList_append_run _ rfl _ _ _ _ rfl _ _ rfl rfl _ _ hrun ?_)
  have hmw : w.heap.size ≤ ((wa.setCell ⟨OB, 0, none⟩ (.slice (some ⟨gN, 0, none⟩) (o.length + 1) cap)).setCell ⟨PL, y, none⟩ (.int .u64 ((o.length : Int) + 1))).heap.size := K3.size
  have hown3 : ((wa.setCell ⟨OB, 0, none⟩ (.slice (some ⟨gN, 0, none⟩) (o.length + 1) cap)).setCell ⟨PL, y, none⟩ (.int .u64 ((o.length : Int) + 1))).ownsRow w.heap.size 67 1 (.slice A1 nd.2.length c1) nd.2.length (nd.2.map (Value.int .u64)) ∧ ∀ k, (Value.slice A1 nd.2.length c1).ownBlock = some k → k < ((wa.setCell ⟨OB, 0, none⟩ (.slice (some ⟨gN, 0, none⟩) (o.length + 1) cap)).setCell ⟨PL, y, none⟩ (.int .u64 ((o.length : Int) + 1))).heap.size := by
    have hk : ∀ k t cs, w.heap.size ≤ k → Blk ((w1.setCell ⟨w.heap.size, 3, none⟩ (.slice A1 nd.2.length c1)).alloc (.cells #[.int .i64 nd.1.1, .int .i64 nd.1.2.1, .int .u64 nd.1.2.2, .slice A1 nd.2.length c1] 71)) k t cs → _ := fun k t cs h1 h2 => (B3 k t cs h1 h2).1
    have o3 := own_up o2 (((Up.refl _).alloc (.cells #[.int .i64 nd.1.1, .int .i64 nd.1.2.1, .int .u64 nd.1.2.2, .slice A1 nd.2.length c1] 71)))
    have o4 : ((wa.setCell ⟨OB, 0, none⟩ (.slice (some ⟨gN, 0, none⟩) (o.length + 1) cap)).setCell ⟨PL, y, none⟩ (.int .u64 ((o.length : Int) + 1))).ownsRow w.heap.size 67 1 (.slice A1 nd.2.length c1) nd.2.length (nd.2.map (Value.int .u64)) :=
      ⟨o3.1, o3.2.imp id fun ⟨g', cp, cur, q1, q2, q3, r⟩ => ⟨g', cp, cur, q1, q2, hk g' _ _ q2 q3, r⟩⟩
    exact ⟨o4, fun k e => (World.ownsRow.lt o4 k e).2⟩
  have hst : Hf g w0 GB PB PL OB RB c (some p) vs0 vs f y vn us o w w.heap.size ((wa.setCell ⟨OB, 0, none⟩ (.slice (some ⟨gN, 0, none⟩) (o.length + 1) cap)).setCell ⟨PL, y, none⟩ (.int .u64 ((o.length : Int) + 1))).heap.size (.slice A1 nd.2.length c1) nd 0 _ _ _ _ :=
    ⟨rfl, C3, K3, X3, List.prefix_refl _, fun k u m h1 h2 h3 => (by
      have q : (o ++ [(y : Int) + 1])[k]? = none := List.getElem?_eq_none (by simpa using h1)
      replace h3 : (o ++ [(y : Int) + 1])[k]? = some m := h3
      rw [q] at h3
      cases h3), by rw [half_0]; exact hown3.1, hown3.2, NB3, (B3 _ _ _ (Nat.le_refl _) (N2.alloc _)).2, Nat.le_refl _⟩
  have HST := Lib.hid hst
  have HCC := Lib.hid (HH.out w.heap.size _ (Nat.le_refl _) hmw)
  have hN3 : Hid (∀ wr, Blk wr RB 78 #[rov GB PB OB RB] → wr.cell? ⟨RB, 0, none⟩ = some (rov GB PB OB RB)) := Lib.hid (fun wr h => h.cell 0)
  clear hown3 hst hrun hoa hga hla C1 N1 C2 N2 o2 hlt1 U1 U2 hU1 ho1 C3 K3 X3 B3 b4 b5 b6 hcO2 hlO2 hcN2 hlN2 hcOa hfOa hlOa hcOb hfP hlP2 hlOb NB3 hcN3 hlN3 hN1c hN1f hN1l hcP2 hmw UB HCL hne1 hup HH
  generalize (wa.setCell ⟨OB, 0, none⟩ (.slice (some ⟨gN, 0, none⟩) (o.length + 1) cap)).setCell ⟨PL, y, none⟩ (.int .u64 ((o.length : Int) + 1)) = w3 at *
  go_loopw [54] (fun i wr => UpR g w0 GB PB PL OB RB c (some p) vs0 vs f y vn us o w w.heap.size w3.heap.size (.slice A1 nd.2.length c1) nd i wr) (fun i _ => nd.2.length - (intOf i).toNat)
  case atStart => exact ⟨0, _, _, _, Nat.zero_le _, rfl, HST.out⟩
  case round =>
    rename World => wr
    obtain ⟨x, vn', us', o', hx, rfl, hF⟩ := hrel
    by_cases hlt : x < nd.2.length
    · have HF := Lib.hid hF
      obtain ⟨FB, rfl⟩ : ∃ FB, A1 = some ⟨FB, 0, none⟩ := by
        rcases hF.own.2 with ⟨q, q2⟩ | ⟨g', cp, cur, q, _⟩
        · omega
        · cases q; exact ⟨_, rfl⟩
      obtain ⟨v, hv⟩ : ∃ v, nd.2.getD x 0 = v := ⟨_, rfl⟩
      have hcx : wr.cell? ⟨FB, x, none⟩ = some (.int .u64 v) := by
        obtain ⟨_, _, _, _, hrv⟩ := rv_of_own hF.own (by rw [List.length_map, half_len]; omega)
        obtain ⟨p', e, hc⟩ := hrv.at_ (j := x) (by rw [List.length_map, half_len]; exact hlt)
        cases e
        rw [add_zero'] at hc
        rw [hc, List.getElem_map]
        have h1 := half_at o' nd x hlt
        rw [if_neg (by omega), hv] at h1
        have h2 : x < (half o' nd x).length := by rw [half_len]; exact hlt
        simp only [List.getD, List.getElem?_eq_getElem h2, Option.getD_some] at h1
        rw [h1]
      have hlx := lt_of_cell hcx
      have hcN := hF.nb.cell
      have hlN := hF.nb.lt
      have HPx := Lib.hid (HP.out x hlt)
      have HV := Lib.hid hv
      clear hF hv
      generalize hpp : ptb nd.1.2.1 nd.1.2.2 (x : Int) = bp at HPx
      have hip : isP nd (x : Int) = bp := hpp
      clear hpp
      have HIP := Lib.hid hip
      clear hip
      cases bp
      · go_wp2_with (fail)
        refine (HPx.out _).mono ?_
        rintro e w4 ⟨rfl, hU4⟩
        have HF4 := Lib.hid (HF.out.no HIP.out hU4)
        clear hU4
        go_wp2
        exact ⟨⟨x + 1, _, _, _, by omega, by go_num, HF4.out⟩, by simp [intOf]; omega⟩
      · go_wp2_with (fail)
        refine (HPx.out _).mono ?_
        rintro e w4 ⟨rfl, hU4⟩
        have F4 := HF.out.up hU4.drew
        have HF4 := Lib.hid F4
        have hcN4 := F4.nb.cell
        have hlN4 := F4.nb.lt
        have hcR4 := F4.cn.hR.cell
        have hfu : g.1.length < f + o'.length := by
          have h1 := (HCC.out.more (pup nd x)).pre.length_le
          rw [← F4.oe] at h1
          have h2 := HCC.out.fu
          have h3 : (o ++ [(y : Int) + 1]).length = o.length + 1 := by simp
          omega
        have HCL := Lib.hid (HX.out v _ _ _ _ F4.cn hfu)
        clear F4 hU4 hcN hlN hcx hlx
        go_wp2_with (fail)
        go_region_with (first
          | (go_at_call 98; ((with_reducible refine HCL.out.mono ?_); rintro e w5 hpost; obtain ⟨rfl, nb5, ⟨cur, hB5, hsz⟩, vn2, us2, hF5⟩ := HF4.out.yes HCC.out HIP.out hlt HV.out hpost rfl; have HF5 := Lib.hid hF5; have hcN5 := nb5.cell; have hlN5 := nb5.lt; have hfB5 := hB5.frozen; have hcB5 := (hB5.cell x).trans (Array.getElem?_eq_getElem hsz); have hlB5 := hB5.lt; clear hpost hF5 nb5 hB5)))
        all_goals
          go_wp2
          exact ⟨⟨x + 1, _, _, _, by omega, by go_num, HF5.out⟩, by simp [intOf]; omega⟩
    · obtain rfl : x = nd.2.length := by omega
      obtain ⟨e2, hpost⟩ := hF.done HCC.out rfl
      have hcP := hF.cn.hP.cell
      have hlP := hF.cn.hP.lt
      have hcy := (hF.cn.hL.cell y).trans (plc_at o' hy)
      have hly := hF.cn.hL.lt
      rw [e2] at hpost hcy
      clear hF e2 HST
      generalize pl (vall g f (ptrs (ndOf g ((y : Int) + 1))) (o ++ [(y : Int) + 1])) ((y : Int) + 1) = pv at *
      have HPO := Lib.hid hpost
      clear hpost
      go_wp2
      go_ret
      exact HPO.out
/-- The closure, wherever it is asked. -/
theorem reach_any (g : Gr) (w0 : World) (GB PB PL OB RB c : Nat) (A : Option Addr) (vs0 vs : Value) (X : Gx w0 GB PL OB) (hns : Ns w0 (.slice A g.1.length c) g.1) (hR : Rg g) (hN1 : g.1.length ≤ 1000) : ∀ f, RcAll g w0 GB PB PL OB RB c A vs0 vs f := by
  intro f
  induction f with
  | zero => intro n vn us o w hC h; have := hC.td.len; omega
  | succ f ih =>
    intro n vn us o w hC h
    have same : vis g (f + 1) n o = o → ∀ e w', e = .returned (.int .u64 (pl o n)) ∧ w' = w → RcPost g w0 GB PB PL OB RB c A vs0 vs vn us o (vis g (f + 1) n o) n w e w' := by
      rintro hv e w' ⟨rfl, rfl⟩
      rw [hv]
      refine ⟨vn, us, rfl, hC, Kc.refl _, Nx.refl _ _, List.prefix_refl _, fun k u m h1 h2 h3 => ?_⟩
      rw [List.getElem?_eq_none h1] at h3
      cases h3
    by_cases hin : inN g n
    · obtain ⟨y, rfl⟩ : ∃ y : Nat, n = (y : Int) + 1 := ⟨n.toNat - 1, by have := hin.1; omega⟩
      have hy : y < g.1.length := by have := hin.2; omega
      by_cases hm : (y : Int) + 1 ∈ o
      · have h1 := (pl_in hm).1
        exact (reach_told GB PB PL OB RB g.1.length c y A vs0 _ w hC.hG hC.hP ((hC.hL.cell y).trans (plc_at o hy)) (by omega) hy (by omega)).mono (same (vis_no (fun q => q.2 hm)))
      · rw [vis_yes hin hm]
        exact reach_new g w0 GB PB PL OB RB c A vs0 vs X hns hR hN1 f ih y vn us o w hC hy hm h
    · have h0 := pl_out hC.td hin
      refine (reach_out GB PB OB RB g.1.length c A vs0 n w hC.hG (by omega) (by unfold inN at hin; omega)).mono ?_
      rintro e w' ⟨rfl, rfl⟩
      exact same (vis_no (fun q => hin q.1)) _ _ ⟨by rw [h0], rfl⟩

end Go.Proofs.YtanhhkdoejnpiaaGreat.G
/-! Of stage 15 -/
namespace Go.Proofs.YtanhhkdoejnpiaaGreat.G
open Go.Joins Go.ChangeShapes Go.WideShapes Go.ChangeAt Go.RowKit Go.Deep Go.Shelf Go.Maps
set_option linter.unusedVariables false
set_option linter.unusedSimpArgs false

/-- A row, mapped up to one. -/
def hrow (o row : List Int) (i : Nat) : List Int := (List.range row.length).map fun (b : Nat) => if b < i then pl o (row.getD b 0) else row.getD b 0
theorem hrow_len (o row : List Int) (i : Nat) : (hrow o row i).length = row.length := by simp [hrow]
theorem hrow_at (o row : List Int) (i : Nat) {b : Nat} (h : b < row.length) : (hrow o row i).getD b 0 = if b < i then pl o (row.getD b 0) else row.getD b 0 := by
  simp [hrow, List.getD, h]
theorem hrow_0 (o row : List Int) : hrow o row 0 = row := by
  refine getD_ext (by simp [hrow]) fun j hj => ?_
  have hj : j < row.length := by simpa [hrow] using hj
  rw [hrow_at _ _ _ hj, if_neg (by omega)]
theorem hrow_all (o row : List Int) {i : Nat} (h : row.length ≤ i) : hrow o row i = row.map (pl o) := by
  refine getD_ext (by simp [hrow]) fun j hj => ?_
  have hj : j < row.length := by simpa [hrow] using hj
  rw [hrow_at _ _ _ hj, if_pos (by omega)]
  simp [List.getD, hj]
theorem hrow_ext {o o' row : List Int} {i : Nat} (h : ∀ b, b < i → b < row.length → pl o' (row.getD b 0) = pl o (row.getD b 0)) : hrow o' row i = hrow o row i := by
  refine List.map_congr_left fun b hb => ?_
  have hb := List.mem_range.1 hb
  by_cases q : b < i
  · rw [if_pos q, if_pos q, h b q hb]
  · rw [if_neg q, if_neg q]
theorem hrow_step {o o' row : List Int} {i : Nat} (hi : i < row.length) (h : ∀ b, b < i → b < row.length → pl o' (row.getD b 0) = pl o (row.getD b 0)) : hrow o' row (i + 1) = (hrow o row i).set i (pl o' (row.getD i 0)) := by
  refine getD_ext (by simp [hrow]) fun j hj => ?_
  have hj : j < row.length := by simpa [hrow] using hj
  rw [hrow_at _ _ _ hj]
  by_cases e : i = j
  · subst e
    have h1 : i < (hrow o row i).length := by rw [hrow_len]; exact hj
    rw [if_pos (by omega)]
    simp only [List.getD, List.getElem?_set_self h1, Option.getD_some]
  · have h3 : ((hrow o row i).set i (pl o' (row.getD i 0))).getD j 0 = (hrow o row i).getD j 0 := by simp only [List.getD, List.getElem?_set_ne e]
    rw [h3, hrow_at _ _ _ hj]
    by_cases q : j < i
    · rw [if_pos (by omega), if_pos q, h j q hj]
    · rw [if_neg (by omega), if_neg q]
/-- How far a row is mapped. -/
def far_ (R : List (List Int)) (j i a : Nat) : Nat := if a < j then (R.getD a []).length else if a = j then i else 0
def Lx (o : List Int) (R : List (List Int)) (j i : Nat) : List (List Int) := (List.range R.length).map fun (a : Nat) => hrow o (R.getD a []) (far_ R j i a)
theorem Lx_len (o : List Int) (R : List (List Int)) (j i : Nat) : (Lx o R j i).length = R.length := by simp [Lx]
theorem Lx_at (o : List Int) (R : List (List Int)) (j i : Nat) {a : Nat} (h : a < R.length) : (Lx o R j i)[a]? = some (hrow o (R.getD a []) (far_ R j i a)) := by
  simp [Lx, h]
theorem Lx_row (o : List Int) (R : List (List Int)) {j : Nat} (i : Nat) (h : j < R.length) : (Lx o R j i)[j]? = some (hrow o (R.getD j []) i) := by
  rw [Lx_at o R j i h]
  unfold far_
  rw [if_neg (by omega), if_pos rfl]
theorem range_getD {R : List (List Int)} {f : Nat → List Int} (h : ∀ a, a < R.length → f a = R.getD a []) : (List.range R.length).map f = R := by
  apply List.ext_getElem?
  intro a
  rcases Nat.lt_or_ge a R.length with q | q
  · simp [q, h a q, List.getD]
  · rw [List.getElem?_eq_none (by simpa using q), List.getElem?_eq_none q]
theorem Lx_0 (o : List Int) (R : List (List Int)) : Lx o R 0 0 = R := range_getD fun a h => by
  have : far_ R 0 0 a = 0 := by unfold far_; rw [if_neg (by omega)]; split <;> rfl
  rw [this, hrow_0]
theorem Lx_next {o : List Int} {R : List (List Int)} {j i : Nat} (h : i = (R.getD j []).length) : Lx o R j i = Lx o R (j + 1) 0 := by
  refine List.map_congr_left fun a ha => ?_
  have : far_ R j i a = far_ R (j + 1) 0 a := by
    unfold far_
    rcases Nat.lt_trichotomy a j with q | q | q
    · rw [if_pos q, if_pos (by omega)]
    · subst q; rw [if_neg (by omega), if_pos rfl, if_pos (by omega), h]
    · rw [if_neg (by omega), if_neg (by omega), if_neg (by omega)]
      split <;> rfl
  rw [this]
theorem Lx_all (o : List Int) (R : List (List Int)) : Lx o R R.length 0 = R.map fun row => row.map (pl o) := by
  have h : (List.range R.length).map (fun (a : Nat) => hrow o (R.getD a []) (far_ R R.length 0 a)) = (List.range R.length).map fun (a : Nat) => (R.getD a []).map (pl o) := by
    refine List.map_congr_left fun a ha => ?_
    have ha := List.mem_range.1 ha
    have : far_ R R.length 0 a = (R.getD a []).length := by unfold far_; rw [if_pos ha]
    rw [this, hrow_all _ _ (Nat.le_refl _)]
  unfold Lx
  rw [h]
  apply List.ext_getElem?
  intro a
  rcases Nat.lt_or_ge a R.length with q | q
  · simp [q, List.getD]
  · rw [List.getElem?_eq_none (by simpa using q), List.getElem?_eq_none (by simpa using q)]
/-- The handles that are gone through. -/
def rup (R : List (List Int)) (j i : Nat) : List Int := (R.take j).flatten ++ (R.getD j []).take i
theorem rup_0 (R : List (List Int)) : rup R 0 0 = [] := by simp [rup]
theorem rup_step {R : List (List Int)} {j i : Nat} (h : i < (R.getD j []).length) : rup R j (i + 1) = rup R j i ++ [(R.getD j []).getD i 0] := by
  unfold rup
  generalize R.getD j [] = row at *
  rw [List.append_assoc, List.take_succ_eq_append_getElem h]
  simp [List.getD, List.getElem?_eq_getElem h]
theorem rup_next {R : List (List Int)} {j i : Nat} (hj : j < R.length) (h : i = (R.getD j []).length) : rup R j i = rup R (j + 1) 0 := by
  unfold rup
  rw [h, List.take_of_length_le (Nat.le_refl _), List.take_zero, List.append_nil, flat_take R hj]
theorem rup_all (R : List (List Int)) : rup R R.length 0 = R.flatten := by simp [rup]
theorem rup_mem {R : List (List Int)} {j i a b : Nat} (ha : a < R.length) (hb : b < (R.getD a []).length) (h : b < far_ R j i a) : (R.getD a []).getD b 0 ∈ rup R j i := by
  unfold rup far_ at *
  by_cases q : a < j
  · refine List.mem_append_left _ (List.mem_flatten.2 ⟨R.getD a [], ?_, getD_mem 0 hb⟩)
    have h2 : R[a]? = some (R.getD a []) := by simp [List.getD, List.getElem?_eq_getElem ha]
    exact List.mem_of_getElem? (i := a) (by rw [List.getElem?_take, if_pos q, h2])
  · rw [if_neg q] at h
    by_cases q2 : a = j
    · subst q2
      rw [if_pos rfl] at h
      refine List.mem_append_right _ ?_
      have h2 : (R.getD a [])[b]? = some ((R.getD a []).getD b 0) := by
        have := List.getElem?_eq_getElem hb
        rw [this]
        conv => rhs; rw [List.getD, this]
        rfl
      exact List.mem_of_getElem? (i := b) (by rw [List.getElem?_take, if_pos h, h2])
    · rw [if_neg q2] at h; omega
/-- One more handle is mapped. -/
theorem Lx_step {o o' : List Int} {R : List (List Int)} {j i : Nat} (hj : j < R.length) (hi : i < (R.getD j []).length) (h : ∀ n ∈ rup R j i, pl o' n = pl o n) :
    Lx o' R j (i + 1) = (Lx o R j i).set j ((hrow o (R.getD j []) i).set i (pl o' ((R.getD j []).getD i 0))) := by
  apply List.ext_getElem?
  intro a
  rcases Nat.lt_or_ge a R.length with q | q
  · rw [Lx_at _ _ _ _ q]
    by_cases e : j = a
    · subst e
      rw [List.getElem?_set_self (by rw [Lx_len]; exact q)]
      have : far_ R j (i + 1) j = i + 1 := by unfold far_; rw [if_neg (by omega), if_pos rfl]
      rw [this, hrow_step hi fun b hb hb2 => h _ (rup_mem hj hb2 (by unfold far_; rw [if_neg (by omega), if_pos rfl]; exact hb))]
    · rw [List.getElem?_set_ne e, Lx_at _ _ _ _ q]
      have : far_ R j (i + 1) a = far_ R j i a := by
        have e' : ¬ a = j := fun z => e z.symm
        unfold far_
        by_cases z : a < j
        · rw [if_pos z, if_pos z]
        · rw [if_neg z, if_neg z, if_neg e', if_neg e']
      rw [this, hrow_ext fun b hb hb2 => h _ (rup_mem q hb2 hb)]
  · rw [List.getElem?_eq_none (by rw [Lx_len]; exact q), List.getElem?_eq_none (by rw [List.length_set, Lx_len]; exact q)]
theorem plc_nil (N : Nat) : plc N [] = (List.replicate N (Value.int .u64 0)).toArray := by
  have : ∀ k : Nat, Value.int .u64 (pl [] ((k : Int) + 1)) = Value.int .u64 0 := fun k => by unfold pl; rw [if_neg (by simp)]
  unfold plc
  simp only [this]
  congr 1
  apply List.ext_getElem?
  intro a
  rcases Nat.lt_or_ge a N with q | q
  · simp [q]
  · rw [List.getElem?_eq_none (by simpa using q), List.getElem?_eq_none (by simpa using q)]
theorem make_wordsN (n : Nat) (hn : n ≤ 1048576) (w : World) :
    (Instr.makeSlice 22 (.int .i64 (n : Int)) (.int .i64 (n : Int))).run Tryz.prog w = .ok (.slice (some ⟨w.heap.size, 0, none⟩) n n) (w.alloc (.cells (List.replicate n (Value.int .u64 0)).toArray 67)) := by
  have := run_make_row' (P := Tryz.prog) 22 67 (.int .u64 0) 8 Tryz.underlying22 (by kernel_rfl) rfl .i64 .i64 n (by omega) (by omega) w
  rw [show madeCells #[Value.int .u64 0] n = (List.replicate n (Value.int .u64 0)).toArray from by
    apply Array.ext
    · simp [size_madeCells]
    · intro i h1 h2
      simp [madeCells, Nat.mod_one]] at this
  exact this

end Go.Proofs.YtanhhkdoejnpiaaGreat.G
