/- What is reached, in order (graph.Canon): contract. -/
import Derived.Test.YtlocllcijncllaaCx
namespace Go.Proofs.Ytlocllcijncllaa
open Go.Joins Go.ChangeShapes Go.WideShapes Go.ChangeAt Go.RowKit Go.Deep Go.Shelf Go.Maps
set_option linter.unusedVariables false
set_option linter.unusedSimpArgs false

/-- Rows of handles that are mapped up to one. -/
structure Rx (g : Gr) (w0 : World) (GB PB PL OB RB c : Nat) (A : Option Addr) (vs0 : Value) (GS BS M : Nat) (us2 : List Value) (j i : Nat) (vn : Value) (us : List Value) (o : List Int) (wr : World) : Prop where
  oe : o = vall g 101 (rup g.2 j i) []
  cn : Cn g w0 GB PB PL OB RB c A vs0 (.slice (some ⟨GS, 0, none⟩) g.2.length g.2.length) vn us o wr
  grid : Blk wr GS 47 us2.toArray
  ct : Ct .i64 3 w0.heap.size wr us2 (Lx o g.2 j i) BS
  rows : ∀ (k : Nat) (u : Value) (m : Int), us[k]? = some u → o[k]? = some m → wr.ownsRow M 26 1 u (ndOf g m).2.length ((mpF (pl o) (ndOf g m)).2.map (Value.int .u64))
  m : M ≤ wr.heap.size
  plm : PL < M
  obm : OB < M
theorem nvs_heads : ∀ (ns ms : List Nd) (us : List Value), ns.map (·.1) = ms.map (·.1) → nvs ns us = nvs ms us
  | [], [], us, _ => rfl
  | [], m :: r, us, h => by simp at h
  | n :: r, [], us, h => by simp at h
  | n :: r, m :: r', [], h => rfl
  | n :: r, m :: r', u :: us, h => by
    simp only [List.map_cons, List.cons.injEq] at h
    simp [nvs, h.1, nvs_heads r r' us h.2]
theorem sl_of_own {k : IntKind} {w : World} {n₀ n : Nat} {e : TypeId} {u : Value} {xs : List Int} (h : w.ownsRow n₀ e 1 u n (xs.map (Value.int k))) (hl : xs.length = n) : Sl k w u xs := by
  obtain ⟨A, c, rfl⟩ := own_slice h
  obtain ⟨_, q1, q2, q3, q4⟩ := rv_of_own h (by simp [hl])
  exact ⟨A, c, by rw [hl], by omega, q2, q3, q4⟩
section
variable {g : Gr} {w0 wr w2 : World} {GB PB PL OB RB c GS BS M j i : Nat} {A : Option Addr} {vs0 vn : Value} {us us2 : List Value} {o : List Int}
theorem Rx.up (h : Rx g w0 GB PB PL OB RB c A vs0 GS BS M us2 j i vn us o wr) (k : Up wr w2) : Rx g w0 GB PB PL OB RB c A vs0 GS BS M us2 j i vn us o w2 :=
  ⟨h.oe, h.cn.upw k, h.grid.up k, h.ct.up k, fun a u m h1 h2 => own_up (h.rows a u m h1 h2) k, Nat.le_trans h.m k.size, h.plm, h.obm⟩
theorem Rx.next (h : Rx g w0 GB PB PL OB RB c A vs0 GS BS M us2 j i vn us o wr) (hj : j < g.2.length) (hi : i = (g.2.getD j []).length) : Rx g w0 GB PB PL OB RB c A vs0 GS BS M us2 (j + 1) 0 vn us o wr :=
  ⟨by rw [← rup_next hj hi]; exact h.oe, h.cn, h.grid, by rw [← Lx_next hi]; exact h.ct, h.rows, h.m, h.plm, h.obm⟩
theorem Rx.more (h : Rx g w0 GB PB PL OB RB c A vs0 GS BS M us2 j i vn us o wr) (hn : g.1.length ≤ 100) : More g (rup g.2 j i) [] o := by
  rw [h.oe]
  exact vall_more (vis_more g 101) _ _ ⟨by simp, fun m hm => (by cases hm)⟩ (by simp; omega)
theorem Rx.blkB (h : Rx g w0 GB PB PL OB RB c A vs0 GS BS M us2 j i vn us o wr) (hj : j < g.2.length) (hi : i < (g.2.getD j []).length) : w0.heap.size ≤ BS ∧ ∃ cs, Blk wr BS 3 cs ∧ off (Lx o g.2 j i) j + i < cs.size ∧ cs[off (Lx o g.2 j i) j + i]? = some (.int .i64 ((g.2.getD j []).getD i 0)) := by
  have h1 := Lx_row o g.2 i hj
  have hlt : i < (hrow o (g.2.getD j []) i).length := by rw [hrow_len]; exact hi
  have h2 : (hrow o (g.2.getD j []) i)[i]? = some ((g.2.getD j []).getD i 0) := by
    have q := hrow_at o (g.2.getD j []) i hi
    rw [if_neg (by omega)] at q
    rw [← q]
    generalize hrow o (g.2.getD j []) i = z at *
    simp [List.getD, List.getElem?_eq_getElem hlt]
  have h3 := flat_at h1 h2
  obtain ⟨h4, cs, h5, h6⟩ := h.ct.blk (fun q => by rw [q] at h3; simp at h3)
  have h7 := h6 _ _ h3
  refine ⟨h4, cs, h5, ?_, h7⟩
  rcases Nat.lt_or_ge (off (Lx o g.2 j i) j + i) cs.size with q | q
  · exact q
  · rw [Array.getElem?_eq_none q] at h7; cases h7
/-- One more handle. -/
theorem Rx.step (h : Rx g w0 GB PB PL OB RB c A vs0 GS BS M us2 j i vn us o wr) (hn : g.1.length ≤ 100) (hj : j < g.2.length) (hi : i < (g.2.getD j []).length) {v : Int} (hv : (g.2.getD j []).getD i 0 = v) {e : Ending} (hC : RcPost g w0 GB PB PL OB RB c A vs0 (.slice (some ⟨GS, 0, none⟩) g.2.length g.2.length) vn us o (vis g 101 v o) v wr e w2) :
    e = .returned (.int .u64 (pl (vis g 101 v o) v)) ∧ (∃ cs, Blk w2 BS 3 cs ∧ off (Lx o g.2 j i) j + i < cs.size) ∧ Blk w2 GS 47 us2.toArray ∧ pl (vis g 101 v o) v ≤ g.1.length ∧
      ∃ vn2 us', Rx g w0 GB PB PL OB RB c A vs0 GS BS M us2 j (i + 1) vn2 us' (vis g 101 v o) (w2.setCell ⟨BS, off (Lx o g.2 j i) j + i, none⟩ (.int .i64 (pl (vis g 101 v o) v))) := by
  obtain ⟨vn2, us', rfl, C2, K2, N2, P2, R2⟩ := hC
  obtain ⟨hBS, cs, hcs, hsz, -⟩ := h.blkB hj hi
  have hB2 : Blk w2 BS 3 cs := hcs.kc K2 (hcs.ne_type h.cn.hL (by decide)) (hcs.ne_type h.cn.hO (by decide)) (h.cn.no hcs (by decide))
  have hG2 : Blk w2 GS 47 us2.toArray := h.grid.kc K2 (h.grid.ne_type h.cn.hL (by decide)) (h.grid.ne_type h.cn.hO (by decide)) (h.cn.no h.grid (by decide))
  have MR := h.more hn
  have MV := vis_more g 101 v o h.cn.td (by omega)
  have hpl := h.plm
  have hob := h.obm
  have hm := h.m
  have stab : ∀ n ∈ rup g.2 j i, pl (vis g 101 v o) n = pl o n := fun n hnr => by
    by_cases q : inN g n
    · exact pl_pre MV.pre (MR.hs n hnr q)
    · rw [pl_out h.cn.td q, pl_out C2.td q]
  refine ⟨rfl, ⟨cs, hB2, hsz⟩, hG2, by have := (pl_bd (vis g 101 v o) v).2; have := C2.td.len; omega, vn2, us', ?_, C2.farI hB2 hBS _, hG2.far (p := ⟨BS, _, none⟩) (hG2.ne_type hB2 (by decide)) _, ?_, fun k u m h2 h3 => ?_, by simpa using Nat.le_trans hm K2.size, hpl, hob⟩
  · rw [rup_step hi, vall_app, ← h.oe, hv, vall_one]
  · rw [Lx_step hj hi stab, hv]
    have h1 := Lx_row o g.2 i hj
    exact (h.ct.keep (w' := w2) (fun b cs hb => hb.kc K2 (hb.ne_type h.cn.hL (by decide)) (hb.ne_type h.cn.hO (by decide)) (h.cn.no hb (by decide)))).set_ h1 (by rw [hrow_len]; exact hi) _
  · rcases Nat.lt_or_ge k o.length with q | q
    · have hu2 : us[k]? = some u := by
        obtain ⟨t, rfl⟩ := P2
        rwa [List.getElem?_append_left (by rw [h.cn.hus]; exact q)] at h2
      have hm2 : o[k]? = some m := by
        obtain ⟨t, ht⟩ := MV.pre
        rw [← ht, List.getElem?_append_left q] at h3
        exact h3
      have hr := h.rows k u m hu2 hm2
      have hmo : m ∈ o := List.mem_of_getElem? hm2
      rw [mp_pre h.cn.td C2.td MV.pre (MR.cl m hmo (by simp))]
      exact own_far (own_new hr h.cn K2 hpl hob) hB2 (by decide) _ _
    · exact own_far (own_le (R2 k u m q h2 h3) hm) hB2 (by decide) _ _
/-- All handles. -/
theorem Rx.gr (h : Rx g w0 GB PB PL OB RB c A vs0 GS BS M us2 g.2.length 0 vn us o wr) (hs : g.2.length ≤ maxLen) {w' : World} (hk : ∀ b t cs, t ≠ 25 → Blk wr b t cs → Blk w' b t cs) : GrV w' (.agg #[vn, .slice (some ⟨GS, 0, none⟩) g.2.length g.2.length]) (canon g) := by
  have ho : o = ord g := by rw [h.oe, rup_all]; rfl
  have hul := h.cn.hus
  have hc1 : (canon g).1 = o.map fun m => mpF (pl o) (ndOf g m) := by rw [ho]; rfl
  have hc2 : (canon g).2 = Lx o g.2 g.2.length 0 := by rw [Lx_all, ho]; rfl
  refine ⟨_, _, rfl, ⟨us, ?_⟩, us2, ?_⟩
  · rw [hc1]
    refine ns_of_own (base := w0.heap.size) ?_ ⟨by simp [hul], fun k u xs h1 h2 => ?_⟩
    · rw [List.length_map, nvs_heads (o.map fun m => mpF (pl o) (ndOf g m)) (o.map (ndOf g)) us (by rw [List.map_map, List.map_map]; rfl)]
      exact own_keep h.cn.hN (fun b cs hb => hk b _ cs (by decide) hb)
    · rw [List.map_map, List.getElem?_map] at h2
      obtain ⟨m, hm, rfl⟩ := Option.map_eq_some_iff.1 h2
      exact sl_of_own (own_keep (h.rows k u m h1 hm) (fun b cs hb => hk b _ cs (by decide) hb)) (by show (mpF (pl o) (ndOf g m)).2.length = _; rw [mp_len])
  · rw [hc2]
    exact ⟨_, _, by rw [Lx_len], by rw [Lx_len]; exact Nat.le_refl _, hs, fun q => (by cases q), rv_of_blk (hk _ _ _ (by decide) h.grid) (fun a u hi => by simpa using hi), (h.ct.keep (w' := w') (fun b cs hb => hk b _ cs (by decide) hb)).gd⟩
end
end Go.Proofs.Ytlocllcijncllaa
