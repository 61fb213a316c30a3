/- graph.Canon's closure: a node's fields, one after the other, plainly. -/
import Derived.Test.YtlocllcijncllaaCu
namespace Go.Proofs.Ytlocllcijncllaa
open Go.Joins Go.ChangeShapes Go.WideShapes Go.ChangeAt Go.RowKit Go.Deep Go.Shelf Go.Maps
set_option linter.unusedVariables false
set_option linter.unusedSimpArgs false

/-- A row of nodes takes one more; where it stands then. -/
theorem run_node {w : World} (ty : TypeId) (base n : Nat) (v : Value) (xs : List Value) (hx : w.ownsRow base 62 4 v n xs) (B c : Nat) (t l m u : Value) (hy : Blk w B 62 #[t, l, m, u]) (h1 : ∀ z ∈ [t, l, m, u], z.oneCell' = true) (hb : n ≤ 1048576) (hbase : base ≤ w.heap.size) :
    ∃ g cap w', (Builtin.append_ #[22, 22] ty #[v, .slice (some ⟨B, 0, none⟩) 1 c]).run Try.prog w = .ok (.slice (some ⟨g, 0, none⟩) (n + 1) cap) w' ∧ w'.ownsRow base 62 4 (.slice (some ⟨g, 0, none⟩) (n + 1) cap) (n + 1) (xs ++ [t, l, m, u]) ∧ w.grownBy w' v.ownBlock ∧
      ((Value.slice (some ⟨g, 0, none⟩) (n + 1) cap).ownBlock = v.ownBlock ∨ (Value.slice (some ⟨g, 0, none⟩) (n + 1) cap).ownBlock = some w.heap.size) := by
  obtain ⟨⟨i0, z, hi, hz0, hz1, hz2, hz3⟩, hu, hp, hs⟩ := el_node
  obtain ⟨p, e, hpl, hc⟩ := (rv_of_blk (vs := [t, l, m, u]) hy (fun j z hj => by simpa using hj)) (by simp)
  cases e
  obtain ⟨g, cap, w', r1, r2, r3, r4, _⟩ := run_append_lies (P := Try.prog) w 22 ty base 62 i0 z 4 48 hu hi hz0 hz1 hz2 hz3 hp v n xs hx ⟨B, 0, none⟩ 1 c [t, l, m, u] rfl hc h1 (by omega) (by unfold maxLen; omega) (by omega) hbase w.heap.size rfl
  refine ⟨g, cap, w', r1, r2, r3, ?_⟩
  rcases r4 with q | q
  · exact .inl (by rw [q]; simp [Value.ownBlock])
  · exact .inr (by rw [← q]; simp [Value.ownBlock])
theorem pre_new {o1 o2 : List Int} (h : o1 <+: o2) (hn : o2.Nodup) {k : Nat} {m : Int} (hk : o1.length ≤ k) (e : o2[k]? = some m) : m ∉ o1 := by
  obtain ⟨t, rfl⟩ := h
  rw [List.getElem?_append_right hk] at e
  have hm := List.mem_of_getElem? e
  rw [List.nodup_append] at hn
  exact fun q => hn.2.2 m q m hm rfl
theorem own_setfar {w : World} {n₀ n : Nat} {e : TypeId} {size : Nat} {v : Value} {xs : List Value} (h : w.ownsRow n₀ e size v n xs) {B : Nat} (hB : B < n₀) (i : Nat) (u : Value) : (w.setCell ⟨B, i, none⟩ u).ownsRow n₀ e size v n xs := by
  refine World.ownsRow.kept h (grownBy_setAt _ B _ _) ?_
  cases q : v.ownBlock with
  | none => exact .inl rfl
  | some k =>
    refine .inr fun z => ?_
    cases z
    have := (World.ownsRow.lt h _ q).1
    omega

/-- What one more that is reached leaves. -/
def RcPost (g : Gr) (w0 : World) (GB PB PL OB RB c : Nat) (A : Option Addr) (vs0 vs vn : Value) (us : List Value) (o o' : List Int) (n : Int) (w : World) (e : Ending) (w' : World) : Prop :=
  ∃ vn' us', e = .returned (.int .u64 (pl o' n)) ∧ Cn g w0 GB PB PL OB RB c A vs0 vs vn' us' o' w' ∧ Kc PL OB vn.ownBlock w w' ∧ Nx w vn.ownBlock vn'.ownBlock ∧ us <+: us' ∧
    ∀ k u m, o.length ≤ k → us'[k]? = some u → o'[k]? = some m → w'.ownsRow w.heap.size 26 1 u (ndOf g m).2.length ((mpF (pl o') (ndOf g m)).2.map (Value.int .u64))
def RcAll (g : Gr) (w0 : World) (GB PB PL OB RB c : Nat) (A : Option Addr) (vs0 vs : Value) (f : Nat) : Prop :=
  ∀ (n : Int) (vn : Value) (us : List Value) (o : List Int) (w : World), Cn g w0 GB PB PL OB RB c A vs0 vs vn us o w → g.1.length < f + o.length →
    Calls Try.prog 41 #[.int .u64 n, ptv GB, ptv PB, ptv OB, ptv RB] w (RcPost g w0 GB PB PL OB RB c A vs0 vs vn us o (vis g f n o) n w)
/-- A node's fields up to one. -/
structure Hf (g : Gr) (w0 : World) (GB PB PL OB RB c : Nat) (A : Option Addr) (vs0 vs : Value) (f y : Nat) (vn : Value) (us : List Value) (o : List Int) (w : World) (NB M : Nat) (Fv : Value) (nd : Nd) (x : Nat) (vn' : Value) (us' : List Value) (o' : List Int) (wr : World) : Prop where
  oe : o' = vall g f (pup nd x) (o ++ [(y : Int) + 1])
  cn : Cn g w0 GB PB PL OB RB c A vs0 vs vn' us' o' wr
  kc : Kc PL OB vn.ownBlock w wr
  nx : Nx w vn.ownBlock vn'.ownBlock
  pre : (us ++ [Fv]) <+: us'
  rows : ∀ k u m, o.length + 1 ≤ k → us'[k]? = some u → o'[k]? = some m → wr.ownsRow M 26 1 u (ndOf g m).2.length ((mpF (pl o') (ndOf g m)).2.map (Value.int .u64))
  own : wr.ownsRow w.heap.size 26 1 Fv nd.2.length ((half o' nd x).map (Value.int .u64))
  lt : ∀ k, Fv.ownBlock = some k → k < M
  nb : Blk wr NB 62 #[.int .i64 nd.1.1, .int .i64 nd.1.2.1, .int .u64 nd.1.2.2, Fv]
  ne : some NB ≠ vn'.ownBlock
  m : M ≤ wr.heap.size
/-- What is so at the beginning. -/
structure Hc (g : Gr) (w0 : World) (PL OB f y : Nat) (us : List Value) (o : List Int) (w : World) (NB M : Nat) (nd : Nd) : Prop where
  pl : PL < w.heap.size
  ob : OB < w.heap.size
  up : w0.heap.size ≤ w.heap.size
  nb : w.heap.size ≤ NB
  mw : w.heap.size ≤ M
  td : Told g o
  hus : us.length = o.length
  inn : inN g ((y : Int) + 1)
  no : (y : Int) + 1 ∉ o
  fu : g.1.length < f + 1 + o.length
  nd : nd = ndOf g ((y : Int) + 1)
section
variable {g : Gr} {w0 w wr w2 : World} {GB PB PL OB RB c f y NB M : Nat} {A : Option Addr} {vs0 vs vn vn' Fv : Value} {us us' : List Value} {o o' : List Int} {nd : Nd} {x : Nat}
theorem Hf.up (h : Hf g w0 GB PB PL OB RB c A vs0 vs f y vn us o w NB M Fv nd x vn' us' o' wr) (k : Up wr w2) : Hf g w0 GB PB PL OB RB c A vs0 vs f y vn us o w NB M Fv nd x vn' us' o' w2 :=
  ⟨h.oe, h.cn.upw k, h.kc.up k, h.nx, h.pre, fun a u m h1 h2 h3 => own_up (h.rows a u m h1 h2 h3) k, own_up h.own k, h.lt, h.nb.up k, h.ne, Nat.le_trans h.m k.size⟩
theorem Hc.told (H : Hc g w0 PL OB f y us o w NB M nd) : Told g (o ++ [(y : Int) + 1]) := H.td.snoc H.inn H.no
theorem Hc.more (H : Hc g w0 PL OB f y us o w NB M nd) (hs : List Int) : More g hs (o ++ [(y : Int) + 1]) (vall g f hs (o ++ [(y : Int) + 1])) :=
  vall_more (vis_more g f) hs _ H.told (by have := H.fu; simp; omega)
/-- No pointer: nothing is done. -/
theorem Hf.no (h : Hf g w0 GB PB PL OB RB c A vs0 vs f y vn us o w NB M Fv nd x vn' us' o' wr) (hp : isP nd (x : Int) = false) (k : Up wr w2) : Hf g w0 GB PB PL OB RB c A vs0 vs f y vn us o w NB M Fv nd (x + 1) vn' us' o' w2 := by
  have h2 := h.up k
  exact ⟨by rw [pup_no hp]; exact h.oe, h2.cn, h2.kc, h2.nx, h2.pre, h2.rows, by rw [half_no hp]; exact h2.own, h2.lt, h2.nb, h2.ne, h2.m⟩
/-- A pointer: what it leads to is reached, and the field is its place. -/
theorem Hf.yes (H : Hc g w0 PL OB f y us o w NB M nd) (h : Hf g w0 GB PB PL OB RB c A vs0 vs f y vn us o w NB M Fv nd x vn' us' o' wr) (hp : isP nd (x : Int) = true) (hx : x < nd.2.length) {v : Int} (hv : nd.2.getD x 0 = v) {e : Ending} (hC : RcPost g w0 GB PB PL OB RB c A vs0 vs vn' us' o' (vis g f (v) o') (v) wr e w2) {FB ln cf : Nat} (hFv : Fv = .slice (some ⟨FB, 0, none⟩) ln cf) :
    e = .returned (.int .u64 (pl (vis g f (v) o') (v))) ∧ Blk w2 NB 62 #[.int .i64 nd.1.1, .int .i64 nd.1.2.1, .int .u64 nd.1.2.2, Fv] ∧ (∃ cur, Blk w2 FB 26 cur ∧ x < cur.size) ∧
      ∃ vn2 us2, Hf g w0 GB PB PL OB RB c A vs0 vs f y vn us o w NB M Fv nd (x + 1) vn2 us2 (vis g f (v) o') (w2.setCell ⟨FB, x, none⟩ (.int .u64 (pl (vis g f (v) o') (v)))) := by
  subst hFv
  obtain ⟨vn2, us2, rfl, C2, K2, N2, P2, R2⟩ := hC
  have hpl := H.pl
  have hob := H.ob
  have hmw := H.mw
  have hnb := H.nb
  have hm := h.m
  have eFB : (Value.slice (some ⟨FB, 0, none⟩) ln cf).ownBlock = some FB := by simp [Value.ownBlock]
  have hFB : w.heap.size ≤ FB := (World.ownsRow.lt h.own FB eFB).1
  have hFM : FB < M := h.lt FB eFB
  obtain ⟨cur, hcur, hsz⟩ : ∃ cur, Blk wr FB 26 cur ∧ x < cur.size := by
    rcases h.own.2 with ⟨q, _⟩ | ⟨g', cap, cur, q, _, hg, q1, _, q2, _⟩
    · cases q
    · cases q; exact ⟨cur, hg, by omega⟩
  have hne := h.cn.no hcur (by decide)
  have hB2 : Blk w2 FB 26 cur := hcur.kc K2 (by omega) (by omega) hne
  have hNB2 := h.nb.kc K2 (by omega) (by omega) h.ne
  have o2 := own_kc h.own K2 (by rw [eFB]; intro q; cases q; omega) (by rw [eFB]; intro q; cases q; omega) (.inr (by rw [eFB]; exact hne))
  have MR := H.more (pup nd x)
  rw [← h.oe] at MR
  have hol : o.length + 1 ≤ o'.length := by have := MR.pre.length_le; simpa using this
  have fu2 : g.1.length < f + o'.length := by have := H.fu; omega
  have MV := vis_more g f v o' h.cn.td fu2
  refine ⟨rfl, hNB2, ⟨cur, hB2, hsz⟩, vn2, us2, ?_, C2.far hB2 (by omega) (by have := H.up; omega) _, (h.kc.trans h.nx K2).setC (p := ⟨FB, x, none⟩) (.inr (.inr hFB)) _, h.nx.trans h.kc.size N2, h.pre.trans P2, fun k u m h1 h2 h3 => ?_, ?_, h.lt, hNB2.far (p := ⟨FB, x, none⟩) (hNB2.ne_type hB2 (by decide)) _, N2.ne h.nb.lt h.ne, Nat.le_trans hm (by simpa using K2.size)⟩
  · rw [pup_yes hp, vall_app, vall_one, hv, ← h.oe]
  · rcases Nat.lt_or_ge k o'.length with q | q
    · have hu2 : us'[k]? = some u := by
        obtain ⟨t, rfl⟩ := P2
        rwa [List.getElem?_append_left (by rw [h.cn.hus]; exact q)] at h2
      have hm2 : o'[k]? = some m := by
        obtain ⟨t, ht⟩ := MV.pre
        rw [← ht, List.getElem?_append_left q] at h3
        exact h3
      have hr := h.rows k u m h1 hu2 hm2
      have hmo : m ∈ o' := List.mem_of_getElem? hm2
      have hmn : m ∉ o ++ [(y : Int) + 1] := pre_new MR.pre h.cn.td.nd (by simpa using h1) hm2
      rw [mp_pre h.cn.td C2.td MV.pre (MR.cl m hmo hmn)]
      exact own_setfar (own_new hr h.cn K2 (by omega) (by omega)) hFM _ _
    · exact own_setfar (own_le (R2 k u m q h2 h3) hm) hFM _ _
  · have e2 : half (vis g f v o') nd (x + 1) = (half o' nd x).set x (pl (vis g f v o') v) := by
      rw [← hv]
      refine half_yes hx hp fun j hj hpj => ?_
      have hjm : nd.2.getD j 0 ∈ pup nd x := List.mem_map.2 ⟨j, List.mem_filter.2 ⟨List.mem_range.2 hj, hpj⟩, rfl⟩
      rw [hv]
      by_cases q : inN g (nd.2.getD j 0)
      · exact pl_pre MV.pre (MR.hs _ hjm q)
      · rw [pl_out h.cn.td q, pl_out C2.td q]
    rw [e2, List.map_set]
    have ecap : ln = nd.2.length := by
      rcases h.own.2 with ⟨q, _⟩ | ⟨g', cap, cur', q, _⟩
      · cases q
      · cases q; rfl
    subst ecap
    exact (World.ownsRow.stored o2 x _).1
theorem pup_len {n : Nd} {i : Nat} (h : i = n.2.length) : pup n i = ptrs n := by subst h; exact pup_all n
/-- All fields are gone through. -/
theorem Hf.done (H : Hc g w0 PL OB f y us o w NB M nd) (h : Hf g w0 GB PB PL OB RB c A vs0 vs f y vn us o w NB M Fv nd x vn' us' o' wr) (hx : x = nd.2.length) :
    o' = vall g f (ptrs (ndOf g ((y : Int) + 1))) (o ++ [(y : Int) + 1]) ∧ RcPost g w0 GB PB PL OB RB c A vs0 vs vn us o o' ((y : Int) + 1) w (.returned (.int .u64 (pl o' ((y : Int) + 1)))) wr := by
  have e := h.oe
  rw [pup_len hx, H.nd] at e
  refine ⟨e, vn', us', rfl, h.cn, h.kc, h.nx, (List.prefix_append us [Fv]).trans h.pre, fun k u m h1 h2 h3 => ?_⟩
  rcases Nat.lt_or_ge o.length k with q | q
  · exact own_le (h.rows k u m q h2 h3) H.mw
  · obtain rfl : k = o.length := by omega
    have MR := H.more (ptrs (ndOf g ((y : Int) + 1)))
    rw [← e] at MR
    have hm : m = (y : Int) + 1 := by
      obtain ⟨t, ht⟩ := MR.pre
      rw [← ht, List.append_assoc, List.getElem?_append_right (Nat.le_refl _)] at h3
      simpa using h3.symm
    have hu : u = Fv := by
      obtain ⟨t, ht⟩ := h.pre
      rw [← ht, List.append_assoc, List.getElem?_append_right (by rw [H.hus]; exact Nat.le_refl _), H.hus] at h2
      simpa using h2.symm
    subst hm
    subst hu
    have := h.own
    rw [hx, half_all, H.nd] at this
    exact this
end
end Go.Proofs.Ytlocllcijncllaa
