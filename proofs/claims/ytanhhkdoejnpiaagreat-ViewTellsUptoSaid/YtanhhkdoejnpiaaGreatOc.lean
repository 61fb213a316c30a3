/- The document's graph of memory (dovecoteref16.Of), and Alike: contracts. -/
import Derived.Test.YtanhhkdoejnpiaaGreatOa
import Derived.Test.YtanhhkdoejnpiaaGreatRd
namespace Go.Proofs.YtanhhkdoejnpiaaGreat.G
open Go.Joins Go.ChangeShapes Go.WideShapes Go.ChangeAt Go.RowKit Go.Deep Go.Shelf Go.Maps
set_option linter.unusedVariables false
set_option linter.unusedSimpArgs false

/-- Where the nodes are being told. -/
structure Mb (w1 : World) (OB : Nat) (ns : List Nd) (vn : Value) (us : List Value) (wr : World) : Prop where
  bO : Blk wr OB 30 #[vn, .slice none 0 0]
  ge : w1.heap.size ≤ OB
  own : wr.ownsRow w1.heap.size 71 4 vn ns.length (nvs ns us)
  ul : us.length = ns.length
  words : ∀ (k : Nat) (u : Value) (n : Nd), us[k]? = some u → ns[k]? = some n → wr.ownsRow w1.heap.size 67 1 u n.2.length (n.2.map (Value.int .u64))
  up : Up w1 wr
section
variable {w1 wr wc wb : World} {OB : Nat} {ns : List Nd} {vn v2 u : Value} {us : List Value}
theorem Mb.upw (h : Mb w1 OB ns vn us wr) (k : Up wr wc) : Mb w1 OB ns vn us wc :=
  ⟨h.bO.up k, h.ge, own_up h.own k, h.ul, fun a u m h1 h2 => own_up (h.words a u m h1 h2) k, h.up.trans k⟩
/-- One more node. -/
theorem Mb.fin (h : Mb w1 OB ns vn us wr) (k : Up wr wc) {nd : Nd} (hu : wc.ownsRow wr.heap.size 67 1 u nd.2.length (nd.2.map (Value.int .u64)))
    (hb : wb.ownsRow w1.heap.size 71 4 v2 (ns.length + 1) (nvs ns us ++ [.int .i64 nd.1.1, .int .i64 nd.1.2.1, .int .u64 nd.1.2.2, u])) (hg : wc.grownBy wb vn.ownBlock) :
    Mb w1 OB (ns ++ [nd]) v2 (us ++ [u]) (wb.setCell ⟨OB, 0, none⟩ v2) ∧ Blk wb OB 30 #[vn, .slice none 0 0] := by
  have hc := h.upw k
  have q3 := hc.bO.grown hg (own_row_ne hc.own hc.bO (by decide))
  have hge := h.ge
  have q4 : Blk (wb.setCell ⟨OB, 0, none⟩ v2) OB 30 #[v2, .slice none 0 0] := by simpa using q3.set_ 0 v2
  have hk : ∀ b t cs, t ≠ 71 → t ≠ 30 → Blk wc b t cs → Blk (wb.setCell ⟨OB, 0, none⟩ v2) b t cs := fun b t cs h1 h2 hb => by
    have hb2 := hb.grown hg (own_row_ne hc.own hb (fun e => h1 e.symm))
    exact hb2.far (p := ⟨OB, 0, none⟩) (hb2.ne_type q3 h2) v2
  refine ⟨⟨q4, hge, ?_, by simp [h.ul], fun a v m h1 h2 => ?_, (up_own hc.up hc.own hg).setCell hge _⟩, q3⟩
  · rw [List.length_append, List.length_singleton, nvs_app _ _ _ _ h.ul]
    exact own_far hb q3 (by decide) 0 v2
  · rcases Nat.lt_or_ge a us.length with q | q
    · rw [List.getElem?_append_left q] at h1
      rw [List.getElem?_append_left (by rw [← h.ul]; exact q)] at h2
      exact own_keep (hc.words a v m h1 h2) (fun b cs hb => hk b _ cs (by decide) (by decide) hb)
    · rw [List.getElem?_append_right q] at h1
      rw [List.getElem?_append_right (by rw [← h.ul]; exact q)] at h2
      have ha : a - us.length = 0 := by
        rcases Nat.eq_zero_or_pos (a - us.length) with q2 | q2
        · exact q2
        · rw [List.getElem?_eq_none (by rw [List.length_singleton]; exact q2)] at h1; cases h1
      rw [ha] at h1
      rw [← h.ul, ha] at h2
      simp only [List.getElem?_cons_zero, Option.some.injEq] at h1 h2
      subst h1
      subst h2
      exact own_keep (own_le hu h.up.size) (fun b cs hb => hk b _ cs (by decide) (by decide) hb)
end
/-- Where the handles are being told. -/
structure Ms (w1 : World) (OB : Nat) (ns : List Nd) (vn : Value) (us : List Value) (K : List (List Int)) (vs : Value) (us2 : List Value) (wr : World) : Prop where
  bO : Blk wr OB 30 #[vn, vs]
  ge : w1.heap.size ≤ OB
  nodes : wr.ownsRow w1.heap.size 71 4 vn ns.length (nvs ns us)
  ul : us.length = ns.length
  words : ∀ (k : Nat) (u : Value) (n : Nd), us[k]? = some u → ns[k]? = some n → wr.ownsRow w1.heap.size 67 1 u n.2.length (n.2.map (Value.int .u64))
  own : wr.ownsRow w1.heap.size 72 1 vs K.length us2
  rows : OwR w1.heap.size wr us2 K
  up : Up w1 wr
section
variable {w1 wr wc wb : World} {OB : Nat} {ns : List Nd} {vn vs v2 u : Value} {us us2 : List Value} {K : List (List Int)}
theorem Mb.ms (h : Mb w1 OB ns vn us wr) : Ms w1 OB ns vn us [] (.slice none 0 0) [] wr := ⟨h.bO, h.ge, h.own, h.ul, h.words, World.ownsRow_nil _ _ _ _, OwR.nil _ _, h.up⟩
theorem Ms.upw (h : Ms w1 OB ns vn us K vs us2 wr) (k : Up wr wc) : Ms w1 OB ns vn us K vs us2 wc :=
  ⟨h.bO.up k, h.ge, own_up h.nodes k, h.ul, fun a u m h1 h2 => own_up (h.words a u m h1 h2) k, own_up h.own k, h.rows.up k, h.up.trans k⟩
theorem Ms.fin (h : Ms w1 OB ns vn us K vs us2 wr) (k : Up wr wc) {row : List Int} (hu : wc.ownsRow wr.heap.size 3 1 u row.length (row.map (Value.int .i64)))
    (hb : wb.ownsRow w1.heap.size 72 1 v2 (K.length + 1) (us2 ++ [u])) (hg : wc.grownBy wb vs.ownBlock) : Ms w1 OB ns vn us (K ++ [row]) v2 (us2 ++ [u]) (wb.setCell ⟨OB, 1, none⟩ v2) ∧ Blk wb OB 30 #[vn, vs] := by
  have hc := h.upw k
  have q3 := hc.bO.grown hg (own_row_ne hc.own hc.bO (by decide))
  have hge := h.ge
  have q4 : Blk (wb.setCell ⟨OB, 1, none⟩ v2) OB 30 #[vn, v2] := by simpa using q3.set_ 1 v2
  have hk : ∀ b t cs, t ≠ 72 → t ≠ 30 → Blk wc b t cs → Blk (wb.setCell ⟨OB, 1, none⟩ v2) b t cs := fun b t cs h1 h2 hb => by
    have hb2 := hb.grown hg (own_row_ne hc.own hb (fun e => h1 e.symm))
    exact hb2.far (p := ⟨OB, 1, none⟩) (hb2.ne_type q3 h2) v2
  refine ⟨⟨q4, hge, own_keep hc.nodes (fun b cs hb => hk b _ cs (by decide) (by decide) hb), h.ul, fun a v m h1 h2 => own_keep (hc.words a v m h1 h2) (fun b cs hb => hk b _ cs (by decide) (by decide) hb), ?_, ?_, (up_own hc.up hc.own hg).setCell hge _⟩, q3⟩
  · rw [List.length_append, List.length_singleton]
    exact own_far hb q3 (by decide) 1 v2
  · exact (hc.rows.snoc (xs := row) (own_le hu h.up.size)).keep (fun b cs hb => hk b _ cs (by decide) (by decide) hb)
/-- All is told. -/
theorem Ms.gr (h : Ms w1 OB ns vn us K vs us2 wr) {w' : World} (hk : ∀ b t cs, t ≠ 30 → Blk wr b t cs → Blk w' b t cs) : GrV w' (.agg #[vn, vs]) (ns, K) := by
  have hul := h.ul
  have hrows := h.rows
  refine ⟨_, _, rfl, ⟨us, ?_⟩, us2, ?_⟩
  · refine ns_of_own (base := w1.heap.size) ?_ ⟨by rw [hul]; simp, fun k u xs h1 h2 => ?_⟩
    · exact own_keep h.nodes (fun b cs hb => hk b _ cs (by decide) hb)
    · rw [List.getElem?_map] at h2
      obtain ⟨m, hm, rfl⟩ := Option.map_eq_some_iff.1 h2
      exact sl_own (own_keep (h.words k u m h1 hm) (fun b cs hb => hk b _ cs (by decide) hb)) rfl
  · have ho2 := own_keep h.own (fun b cs hb => hk b _ cs (by decide) hb)
    have hr2 := (hrows.keep (w' := w') (fun b cs hb => hk b _ cs (by decide) hb))
    obtain ⟨A, c, rfl⟩ := own_slice ho2
    obtain ⟨_, q1, q2, q3, q4⟩ := rv_of_own ho2 (by rw [hr2.1, Nat.mul_one])
    exact ⟨A, c, rfl, q1, q2, q3, q4, hr2.gd⟩
end
theorem app_u {w : World} {n₀ n : Nat} {v : Value} {xs : List Value} {a : Int} (h : w.ownsRow n₀ 67 1 v n xs) (hn : n ≤ 1048576) (hb : n₀ ≤ w.heap.size) :
    ∃ v' w', (Builtin.append_ #[22, 22] 22 #[v, .slice (some ⟨w.heap.size, 0, none⟩) 1 1]).run Tryz.prog (w.alloc (.cells #[.int .u64 a] 67)) = .ok v' w' ∧ w'.ownsRow n₀ 67 1 v' (n + 1) (xs ++ [.int .u64 a]) ∧ (w.alloc (.cells #[.int .u64 a] 67)).grownBy w' v.ownBlock := by
  have h1 := own_up h ((Up.refl w).alloc (.cells #[.int .u64 a] 67))
  obtain ⟨v2, wb, r1, r2, r3, -⟩ := run_any el_u64 (w := w.alloc (.cells #[.int .u64 a] 67)) 22 n₀ n _ _ h1 (some ⟨w.heap.size, 0, none⟩) 1 1 [.int .u64 a] rfl (rv_of_blk (Blk.new w _ _) (fun i u hi => by simpa using hi)) (fun u hu => by rw [List.mem_singleton] at hu; subst hu; rfl) (by omega) (Nat.le_trans hb ((Up.refl w).alloc _).size)
  exact ⟨v2, wb, r1, r2, r3⟩
theorem app_i {w : World} {n₀ n : Nat} {v : Value} {xs : List Value} {a : Int} (h : w.ownsRow n₀ 3 1 v n xs) (hn : n ≤ 1048576) (hb : n₀ ≤ w.heap.size) :
    ∃ v' w', (Builtin.append_ #[72, 72] 72 #[v, .slice (some ⟨w.heap.size, 0, none⟩) 1 1]).run Tryz.prog (w.alloc (.cells #[.int .i64 a] 3)) = .ok v' w' ∧ w'.ownsRow n₀ 3 1 v' (n + 1) (xs ++ [.int .i64 a]) ∧ (w.alloc (.cells #[.int .i64 a] 3)).grownBy w' v.ownBlock := by
  have h1 := own_up h ((Up.refl w).alloc (.cells #[.int .i64 a] 3))
  obtain ⟨v2, wb, r1, r2, r3, -⟩ := run_any el_int (w := w.alloc (.cells #[.int .i64 a] 3)) 72 n₀ n _ _ h1 (some ⟨w.heap.size, 0, none⟩) 1 1 [.int .i64 a] rfl (rv_of_blk (Blk.new w _ _) (fun i u hi => by simpa using hi)) (fun u hu => by rw [List.mem_singleton] at hu; subst hu; rfl) (by omega) (Nat.le_trans hb ((Up.refl w).alloc _).size)
  exact ⟨v2, wb, r1, r2, r3⟩
/-- A place, where an address has one; below 0, where it leads nowhere. -/
theorem plm_cases (l : List Int) (a : Int) (h0 : (0 : Int) ∉ l) : (a ∈ 0 :: l ∧ plm l a = pl l a ∧ 0 ≤ pl l a ∧ pl l a ≤ l.length) ∨ (a ∉ 0 :: l ∧ plm l a = -1) := by
  unfold plm
  by_cases e : a = 0
  · subst e
    refine .inl ⟨List.mem_cons_self, ?_, pl_bd l 0⟩
    rw [if_pos rfl]
    unfold pl
    rw [if_neg h0]
  · by_cases q : a ∈ l
    · exact .inl ⟨List.mem_cons_of_mem _ q, by rw [if_neg e, if_pos q], pl_bd l a⟩
    · exact .inr ⟨fun z => (List.mem_cons.1 z).elim e q, by rw [if_neg e, if_neg q]⟩
def nso (m : Me) (l : List Int) (x : Nat) : List Nd := (l.take x).map fun a => mpF (pl l) (ndm m a)
theorem nso_step (m : Me) (l : List Int) {x : Nat} (h : x < l.length) : nso m l (x + 1) = nso m l x ++ [mpF (pl l) (ndm m (l.getD x 0))] := by
  unfold nso
  rw [take_snoc' h, List.map_append]
  rfl
theorem nso_len (m : Me) (l : List Int) {x : Nat} (h : x ≤ l.length) : (nso m l x).length = x := by simp [nso]; omega
def L1_ (m : Me) (l : List Int) (w1 : World) (OB : Nat) (i : Value) (wr : World) : Prop := ∃ (x : Nat) (vn : Value) (us : List Value), x ≤ l.length ∧ i = .int .i64 x ∧ okN m l x = true ∧ Mb w1 OB (nso m l x) vn us wr
def L2_ (l : List Int) (n : Nd) (L : Nat) (wr : World) (BH BN : Nat) (i : Value) (w6 : World) : Prop := ∃ (z : Nat) (u : Value), z ≤ L ∧ i = .int .i64 z ∧ okx l n z = true ∧ Blk w6 BH 69 #[.int .i64 n.1.1, .int .i64 (L : Nat), .int .u64 n.1.2.2] ∧ Blk w6 BN 71 #[.int .i64 n.1.1, .int .i64 (L : Nat), .int .u64 n.1.2.2, u] ∧ w6.ownsRow wr.heap.size 67 1 u z (((mpF (pl l) n).2.take z).map (Value.int .u64)) ∧ Up wr w6
def L3_ (l : List Int) (K : List (List Int)) (w1 : World) (OB : Nat) (ns : List Nd) (vn : Value) (us : List Value) (i : Value) (wr : World) : Prop := ∃ (j : Nat) (us2 : List Value) (vs : Value), j ≤ K.length ∧ i = .int .i64 j ∧ okL l (K.take j).flatten = true ∧ Ms w1 OB ns vn us ((K.take j).map fun row => row.map (pl l)) vs us2 wr
def L4_ (l row : List Int) (wr : World) (u i : Value) (w5 : World) : Prop := ∃ x : Nat, x ≤ row.length ∧ i = .int .i64 x ∧ okL l (row.take x) = true ∧ w5.ownsRow wr.heap.size 3 1 u x (((row.take x).map (pl l)).map (Value.int .i64)) ∧ Up wr w5
theorem okL_app (l xs ys : List Int) : okL l (xs ++ ys) = (okL l xs && okL l ys) := by simp [okL, List.all_append]
theorem okL_no {l xs : List Int} {a : Int} (h : a ∈ xs) (k : a ∉ 0 :: l) : okL l xs = false := by
  cases q : okL l xs
  · rfl
  · exact absurd (List.mem_cons.2 (okL_true.1 q a h)) k
theorem ofB_split (m : Me) (L : List (List Int)) : ofB m L = (okL (m.rch L.flatten) L.flatten && okN m (m.rch L.flatten) (m.rch L.flatten).length) := by
  unfold ofB okN
  rw [List.take_of_length_le (Nat.le_refl _)]
set_option maxRecDepth 100000 in
set_option maxHeartbeats 16000000 in
theorem rof_any (m : Me) (P Q : Addr) (c d : Nat) (v : Value) (L : List (List Int)) (w : World) (hm : Sits w m P Q c d) (hwf : m.wf) (hL : Rw .u64 w v L) (hO : RwOk L) (hs : L.length ≤ 1048576) :
    Calls Tryz.prog 12 #[mev m.n P Q c d, v] w fun e w' => if ofB m L then OfYes m L w e w' else OfNo w e w' := by
  have hn : m.n ≤ 4096 := hm.1.2.1
  have HJ := Lib.hid (fun W (k : Up w W) => joined_let v L W (hL.up k) hO)
  have HC := Lib.hid (fun W A n cu (k : Up w W) (h : Sl .u64 W (.slice A n cu) L.flatten) => rreach_let m P Q c d A n cu L.flatten W (hm.up k) hwf h hO.u)
  have HLW := Lib.hid (fun W (k : Up w W) => hL.up k)
  have hl2 := rch_2n m L.flatten
  have hz := rch_no0 m L.flatten
  obtain ⟨f1, f2, -, -, -⟩ := rch_facts m L.flatten
  have HAT := Lib.hid (fun a (ha : a ∈ m.rch L.flatten) W (k : Up w W) => by
    have hr := f2 a ha
    have h := rat_any m a P Q c d W (hm.up k) (real_u64 hr) hwf
    rw [ate_0.2 (real_head hr).1] at h
    exact h)
  have HGT := Lib.hid (fun a (ha : a ∈ m.rch L.flatten) (i : Nat) (hi : i < (ndm m a).2.length) W (k : Up w W) => by
    have hr := f2 a ha
    obtain ⟨hk, _, _, hl0, hl1, hm0, hm1⟩ := real_head hr
    have hln := ndm_len hr
    have h := rget_any m a i P Q c d W (hm.up k) (real_u64 hr) hwf
    have hfk : m.fok a i := ⟨of_decide_eq_true hr, by unfold hasb; exact decide_eq_true ⟨by omega, by omega⟩⟩
    rw [← ndm_at hi, gete_0.2 hfk, show m.getb a i = isP (ndm m a) (i : Int) from if_pos hfk] at h
    exact h)
  have HND := Lib.hid (fun a (ha : a ∈ m.rch L.flatten) => (⟨ndm_len (f2 a ha), by have := (real_head (f2 a ha)).2.2.2.2.1; have := ndm_len (f2 a ha); omega, ptv_ndm (f2 a ha), fun i hi => by rw [ndm_at hi]; exact getv_u64 hwf a i⟩ : ((ndm m a).2.length : Int) = (ndm m a).1.2.1 ∧ (ndm m a).2.length ≤ 16 ∧ m.ptv a = ptrs (ndm m a) ∧ ∀ i, i < (ndm m a).2.length → U64 ((ndm m a).2.getD i 0)))
  have HOG := Lib.hid (ofB_split m L)
  have HOFG : Hid (ofG m L = (nso m (m.rch L.flatten) (m.rch L.flatten).length, L.map fun row => row.map (pl (m.rch L.flatten)))) := Lib.hid (by unfold ofG nso; rw [List.take_of_length_le (Nat.le_refl _)])
  have HFL := Lib.hid hO.l
  have HUL := Lib.hid hO.u
  obtain ⟨A, cu, rfl, hmx⟩ := hL.slice
  clear hm hL hO hwf f1 f2 hmx
  unfold RchP at HC
  unfold OfYes
  obtain ⟨ob, hob⟩ : ∃ ob, ofB m L = ob := ⟨_, rfl⟩
  rw [hob]
  rw [hob] at HOG
  clear hob
  obtain ⟨l, hl⟩ : ∃ l, m.rch L.flatten = l := ⟨_, rfl⟩
  rw [hl] at HC HAT HGT HND HOG HOFG hl2 hz ⊢
  clear hl
  have HZ := Lib.hid hz
  clear hz
  obtain ⟨ln, hln⟩ : ∃ ln, l.length = ln := ⟨_, rfl⟩
  have HLN := Lib.hid hln
  rw [hln] at HC hl2 HOG HOFG ⊢
  obtain ⟨kn, hkn⟩ : ∃ kn, L.length = kn := ⟨_, rfl⟩
  have HKN := Lib.hid hkn
  rw [hkn] at HJ HLW hs ⊢
  clear hln hkn
  obtain ⟨W0, hW0⟩ : ∃ W0 : World, W0 = ((w.alloc (.cells (mec m.n P Q c d) 25)).alloc (.cells gcz 30)).drew := ⟨_, rfl⟩
  have U0 : Up W0 ((w.alloc (.cells (mec m.n P Q c d) 25)).alloc (.cells gcz 30)).drew := by rw [hW0]; exact Up.refl _
  have k0 : Up w W0 := by rw [hW0]; exact (((Up.refl _).alloc _).alloc _).drew
  have bM : Blk W0 w.heap.size 25 (mec m.n P Q c d) := by rw [hW0]; exact ((Blk.new w _ _).alloc _).drew
  have bR : Blk W0 (w.heap.size + 1) 30 gcz := by rw [hW0]; exact (Blk.new' _ (by simp) _ _).drew
  clear hW0
  obtain ⟨ly, hly⟩ : ∃ ly, L.flatten.length = ly := ⟨_, rfl⟩
  rw [hly] at HJ
  clear hly
  go_enter Tryz.func12, Tryz.ntmps12
  go_wp2_with (fail)
  go_region_held3 (fun w' => (∀ zi, w'.cell? ⟨w.heap.size, zi, none⟩ = (mec m.n P Q c d)[zi]?))
    (exact fun zi => (Blk.up bM (by assumption)).cell zi)
    (first
      | (go_at_call 34; ((with_reducible refine (HJ.out _ (k0.trans (by assumption))).mono ?_); rintro e wz ⟨Ax, cx, rfl, sX, hz⟩; have UZ := Up.trans (a := W0) (by assumption) hz))
      | (go_at_call 25; ((with_reducible refine (HC.out _ _ _ _ (k0.trans (by assumption)) sX).mono ?_); rintro e wz ⟨Ay, cy, rfl, sY, hz⟩; have UZ := Up.trans (a := W0) (by assumption) hz)))
  obtain ⟨w1, hw1⟩ : ∃ z : World, z = wz := ⟨_, rfl⟩
  subst hw1
  have HB1 := Lib.hid (bM.up UZ)
  have HR1 := Lib.hid (bR.up UZ)
  have HU1 := Lib.hid (k0.trans UZ)
  have HSL := Lib.hid (fun W (k : Up w1 W) => sY.up k)
  have hst : L1_ m l w1 w1.heap.size (.int .i64 ((0 : Nat) : Int)) (w1.alloc (.cells gcz 30)) := ⟨0, .slice none 0 0, [], Nat.zero_le _, rfl, rfl, Blk.new w1 _ _, Nat.le_refl _, World.ownsRow_nil _ _ _ _, rfl, fun k u n h => (by simp at h), (Up.refl w1).alloc _⟩
  have HST := Lib.hid hst
  have hR1s : w.heap.size + 1 < w1.heap.size := HR1.out.lt
  clear hst sY sX bM bR k0 U0 UZ hz HJ HC
  go_wp2_with (fail)
  generalize hOB : w1.heap.size = OB at HST
  have HOB := Lib.hid hOB
  clear hOB
  go_loopw [8] (fun i wr => L1_ m l w1 OB i wr) (fun i _ => ln - (intOf i).toNat)
  case atStart => exact HST.out
  case round =>
    rename World => wr
    obtain ⟨x, vn, us, hx, rfl, hok, hM⟩ := hrel
    rw [HLN.out] at hx
    by_cases hlt : x < ln
    · have hlx : x < l.length := by rw [HLN.out]; exact hlt
      have hal : l.getD x 0 ∈ l := getD_mem 0 hlx
      have hnl := nso_len m l (Nat.le_of_lt hlx)
      have hns := Lib.hid (nso_step m l hlx)
      have HOK := Lib.hid (okN_step m l hlx)
      have HOK0 := Lib.hid hok
      have HMB := Lib.hid hM
      have HA2 := Lib.hid (HAT.out _ hal)
      have HG2 := Lib.hid (HGT.out _ hal)
      obtain ⟨nl1, nl2, nl3, nl4⟩ := HND.out _ hal
      have HPV := Lib.hid nl3
      have HUX := Lib.hid nl4
      have hAt : m.att (l.getD x 0) = (ndm m (l.getD x 0)).1.1 := rfl
      have hAl : m.atl (l.getD x 0) = (ndm m (l.getD x 0)).1.2.1 := rfl
      have hAm : m.atm (l.getD x 0) = (ndm m (l.getD x 0)).1.2.2 := rfl
      rw [hAt, hAl, hAm, ← nl1] at HA2
      have HN11 := Lib.hid nl1
      clear hAt hAl hAm nl1 nl3 nl4 hok
      have hmM := (HB1.out.up hM.up)
      obtain ⟨pl0, e0, hcl⟩ := (HSL.out wr hM.up).at_ hlt
      subst e0
      have HCL := Lib.hid (fun W (k : Up wr W) => k.cell hcl)
      have hll := lt_of_cell hcl
      rw [block_of_add] at hll
      have HSF := Lib.hid (fun W (k : Up wr W) => HSL.out W (hM.up.trans k))
      have HLY := Lib.hid hal
      clear hal
      generalize l.getD x 0 = a at *
      generalize ndm m a = n at *
      obtain ⟨lo, hlo⟩ : ∃ lo, n.2.length = lo := ⟨_, rfl⟩
      have HLO := Lib.hid hlo
      rw [hlo] at HA2 HG2 HUX nl2 HN11
      have UWW := hM.up
      have HUW := Lib.hid (HU1.out.trans hM.up)
      clear hlo hM hnl
      have HMC := Lib.hid hmM
      have HKP := Lib.hid (fun W (u : Up wr W) => (⟨fun zi => (hmM.up u).cell zi, HCL.out W u⟩ : (∀ zi, W.cell? ⟨w.heap.size, zi, none⟩ = (mec m.n P Q c d)[zi]?) ∧ W.cell? (pl0.add x) = some (.int .u64 a)))
      have U0 : Up wr wr.drew := (Up.refl wr).drew
      have qM := hmM.cell
      have lM := hmM.lt
      clear hmM
      go_wp2_with (fail)
      go_region_held3 (fun w' => (∀ zi, w'.cell? ⟨w.heap.size, zi, none⟩ = (mec m.n P Q c d)[zi]?) ∧ w'.cell? (pl0.add x) = some (.int .u64 a))
        (first
          | with_reducible exact HKP.out _ (by assumption)
          | with_reducible exact HKP.out _ (((Up.refl wr).alloc _).drew)
          | with_reducible exact HKP.out _ (Up.alloc (by assumption) _)
          | exact HKP.out _ (Up.setCell (Up.setCell (Up.setCell (by assumption) (Nat.le_refl _) _) (Nat.le_refl _) _) (Nat.le_refl _) _))
        ((go_at_call 35; ((with_reducible refine (HA2.out _ (HUW.out.trans (by first | assumption | exact ((Up.refl wr).alloc _).drew))).mono ?_); rintro e w5 ⟨rfl, k5⟩; have UZ : Up wr w5 := Up.trans (by first | assumption | exact ((Up.refl wr).alloc _).drew) k5; (try (have MB := ((Blk.new wr 69 #[.int .i64 0, .int .i64 0, .int .u64 0]).drew).up k5; have mc := MB.cell; have mf := MB.frozen; have ml := MB.lt)))))
      all_goals
        first
          | (obtain ⟨W7, hW7⟩ : ∃ W7, W7 = w5.alloc (.cells #[.int .i64 n.1.1, .int .i64 (lo : Nat), .int .u64 n.1.2.2] 69) := ⟨_, rfl⟩
             rw [← hW7]
             have bH7 : Blk W7 w5.heap.size 69 #[.int .i64 n.1.1, .int .i64 (lo : Nat), .int .u64 n.1.2.2] := by rw [hW7]; exact Blk.new w5 _ _
             have KW7 : Up wr W7 := by rw [hW7]; exact UZ.alloc _
             obtain ⟨BH, hBH⟩ : ∃ B, B = w5.heap.size := ⟨_, rfl⟩
             rw [← hBH] at bH7 ⊢)
          | (obtain ⟨W7, hW7⟩ : ∃ W7, W7 = ((w5.setCell ⟨wr.heap.size, 0, none⟩ (.int .i64 n.1.1)).setCell ⟨wr.heap.size, 1, none⟩ (.int .i64 (lo : Nat))).setCell ⟨wr.heap.size, 2, none⟩ (.int .u64 n.1.2.2) := ⟨_, rfl⟩
             rw [← hW7]
             have bH7 : Blk W7 wr.heap.size 69 #[.int .i64 n.1.1, .int .i64 (lo : Nat), .int .u64 n.1.2.2] := by rw [hW7]; simpa using ((MB.set_ 0 (.int .i64 n.1.1)).set_ 1 (.int .i64 (lo : Nat))).set_ 2 (.int .u64 n.1.2.2)
             have KW7 : Up wr W7 := by rw [hW7]; exact ((UZ.setCell (Nat.le_refl _) _).setCell (Nat.le_refl _) _).setCell (Nat.le_refl _) _
             obtain ⟨BH, hBH⟩ : ∃ B, B = wr.heap.size := ⟨_, rfl⟩
             rw [← hBH] at bH7 ⊢
             clear mc mf ml MB)
        have kN : Up W7 (W7.alloc (.cells #[.int .i64 n.1.1, .int .i64 (lo : Nat), .int .u64 n.1.2.2, .slice none 0 0] 71)) := (Up.refl W7).alloc _
        have HST2 : Hid (L2_ l n lo wr BH W7.heap.size (.int .i64 ((0 : Nat) : Int)) (W7.alloc (.cells #[.int .i64 n.1.1, .int .i64 (lo : Nat), .int .u64 n.1.2.2, .slice none 0 0] 71))) := Lib.hid ⟨0, .slice none 0 0, Nat.zero_le _, rfl, okx_0 l n, bH7.up kN, Blk.new W7 _ _, World.ownsRow_nil _ _ _ _, KW7.trans kN⟩
        have h7c := bH7.cell
        have h7l := bH7.lt
        have hBN : wr.heap.size ≤ W7.heap.size := KW7.size
        have HBN := Lib.hid hBN
        clear hW7 hBH bH7 KW7 kN qM lM hcl hll UZ k5 U0 hBN
        go_wp2_with (fail)
        generalize W7.heap.size = BN at *
        go_loopw [12] (fun i w6 => L2_ l n lo wr BH BN i w6) (fun i _ => lo - (intOf i).toNat)
        case atStart => exact HST2.out
        case round =>
          rename World => w6
          obtain ⟨z, u, hz, rfl, hox, bH, bN, ho, U6⟩ := hrel
          clear h7c h7l
          have h7c := bH.cell
          have h7l := bH.lt
          obtain ⟨A1, c1, rfl⟩ := own_slice ho
          by_cases hlz : z < lo
          · have hux := HUX.out z hlz
            have HGC := Lib.hid (HG2.out z hlz w6.drew ((HUW.out.trans U6).drew))
            have hcl6 := HCL.out w6 U6
            have hll6 := lt_of_cell hcl6
            rw [block_of_add] at hll6
            have bM6 := HMC.out.up U6
            have qM6 := bM6.cell
            have lM6 := bM6.lt
            have hzl : z < n.2.length := by rw [HLO.out]; exact hlz
            have hmp := mp_at (pl l) n hzl
            have htk := take_snoc' (xs := (mpF (pl l) n).2) (x := z) (by rw [mp_len]; exact hzl)
            have HPM := Lib.hid (fun (hp : isP n (z : Int) = true) => mem_ptrs hzl hp)
            have HXN := Lib.hid (okx_no l n z)
            have HXY := Lib.hid (okx_yes l n z)
            rw [hmp] at htk
            have HTK := Lib.hid htk
            have HPC := Lib.hid (plm_cases l (n.2.getD z 0) HZ.out)
            have HPL := Lib.hid (fun W (k : Up w6 W) => rplacem_any (.slice (some pl0) ln cy) l (n.2.getD z 0) W (HSF.out W (U6.trans k)))
            have HOX := Lib.hid hox
            have HBH := Lib.hid bH
            have HBNN := Lib.hid bN
            have HOW := Lib.hid ho
            have HU6 := Lib.hid U6
            have HM6 := Lib.hid bM6
            obtain ⟨y, hy⟩ : ∃ y, n.2.getD z 0 = y := ⟨_, rfl⟩
            rw [hy] at hux HGC HPM HXY HTK HPC HPL
            obtain ⟨b, hb⟩ : ∃ b, isP n (z : Int) = b := ⟨_, rfl⟩
            rw [hb] at HGC HPM HXN HXY HTK
            clear hox bH bN ho U6 bM6 hmp htk hzl hy hb
            have fin : ∀ (yy : Int) (w8 : World), Up w6 w8 → okx l n (z + 1) = true → (mpF (pl l) n).2.take (z + 1) = (mpF (pl l) n).2.take z ++ [yy] → ∃ A9 c9 w9, (Builtin.append_ #[22, 22] 22 #[.slice A1 z c1, .slice (some ⟨w8.heap.size, 0, none⟩) 1 1]).run Tryz.prog (w8.alloc (.cells #[.int .u64 yy] 67)) = .ok (.slice A9 (z + 1) c9) w9 ∧ Blk w9 BN 71 #[.int .i64 n.1.1, .int .i64 (lo : Nat), .int .u64 n.1.2.2, .slice A1 z c1] ∧ L2_ l n lo wr BH BN (.int .i64 ((z + 1 : Nat) : Int)) (w9.setCell ⟨BN, 3, none⟩ (.slice A9 (z + 1) c9)) := by
              intro yy w8 k8 hx8 ht8
              have o8 := own_up HOW.out k8
              obtain ⟨v9, w9, r1, r2, r3⟩ := app_u (a := yy) o8 (by omega) (HU6.out.trans k8).size
              have kd : Up w8 (w8.alloc (.cells #[.int .u64 yy] 67)) := (Up.refl w8).alloc _
              have o8d := own_up o8 kd
              have q1 := ((HBNN.out.up k8).up kd).grown r3 (own_row_ne o8d ((HBNN.out.up k8).up kd) (by decide))
              have q2 := ((HBH.out.up k8).up kd).grown r3 (own_row_ne o8d ((HBH.out.up k8).up kd) (by decide))
              have q3 := ((HU6.out.trans k8).trans kd).grown r3 (fun g e => (World.ownsRow.lt o8d g e).1)
              obtain ⟨A9, c9, rfl⟩ := own_slice r2
              refine ⟨A9, c9, w9, r1, q1, z + 1, _, by omega, rfl, hx8, q2.far (p := ⟨BN, 3, none⟩) (q2.ne_type q1 (by decide)) _, by simpa using q1.set_ 3 (.slice A9 (z + 1) c9), own_far (by rw [ht8, List.map_append]; exact r2) q1 (by decide) 3 _, q3.setCell HBN.out _⟩
            have FIN := Lib.hid fin
            clear fin
            cases b
            · have HT1 : Hid (okx l n (z + 1) = true) := Lib.hid ((HXN.out rfl).trans HOX.out)
              have HT2 : Hid ((mpF (pl l) n).2.take (z + 1) = (mpF (pl l) n).2.take z ++ [y]) := Lib.hid (by have h := HTK.out; simpa using h)
              clear HXN HXY HTK HPM HPC HPL HOX
              go_wp2_with (fail)
              go_region_with (go_at_call 36; (with_reducible refine HGC.out.mono ?_); rintro e w8 ⟨rfl, k8⟩)
              all_goals
                have K8 : Up w6 w8 := (Up.refl w6).drew.trans k8
                obtain ⟨A9, c9, w9, hrun, q1, HL⟩ := FIN.out y w8 K8 HT1.out HT2.out
                have HL9 := Lib.hid HL
                have b8 := HBNN.out.up K8
                have c8 := b8.cell
                have l8 := b8.lt
                have x9 := q1.cell
                have f9 := q1.frozen
                have l9 := q1.lt
                clear HL b8 q1 h7c h7l hcl6 hll6 qM6 lM6 k8 K8
                go_wp2_with (at_builtin; refine Lib.wpList_append_run _ rfl _ _ _ _ rfl _ _ rfl rfl _ _ hrun ?_)
                exact ⟨by have := HL9.out; push_cast at this; exact this, by simp [intOf]; omega⟩
            · rcases HPC.out with ⟨g1, g2, g3, g4⟩ | ⟨g1, g2⟩
              · rw [g2] at HPL
                obtain ⟨q, hq⟩ : ∃ q, pl l y = q := ⟨_, rfl⟩
                rw [hq] at HPL g3 g4 HTK
                have hq0 : decide (q < 0) = false := decide_eq_false (by omega)
                have hwq : IntKind.u64.wrap q = q := by rw [IntKind.wrap_u64]; have := HLN.out; omega
                have HT1 : Hid (okx l n (z + 1) = true) := Lib.hid (by rw [HXY.out rfl, HOX.out, decide_eq_true g1]; rfl)
                have HT2 : Hid ((mpF (pl l) n).2.take (z + 1) = (mpF (pl l) n).2.take z ++ [q]) := Lib.hid (by have h := HTK.out; simpa using h)
                clear hq g1 g2 HXN HXY HTK HPM HPC HOX
                go_wp2_with (fail)
                go_region_with (go_at_call 36; (with_reducible refine HGC.out.mono ?_); rintro e w8 ⟨rfl, k8⟩)
                all_goals
                  have K8 : Up w6 w8 := (Up.refl w6).drew.trans k8
                  have HK8 := Lib.hid K8
                  have h8c := (HBH.out.up K8).cell
                  have h8l := (HBH.out.up K8).lt
                  clear h7c h7l hcl6 hll6 qM6 lM6 k8 K8
                  go_wp2_with (fail)
                  refine (HPL.out _ HK8.out).mono ?_
                  rintro e w8' ⟨rfl, rfl⟩
                  obtain ⟨A9, c9, w9, hrun, q1, HL⟩ := FIN.out q w8 HK8.out HT1.out HT2.out
                  have HL9 := Lib.hid HL
                  have b8 := HBNN.out.up HK8.out
                  have c8 := b8.cell
                  have l8 := b8.lt
                  have x9 := q1.cell
                  have f9 := q1.frozen
                  have l9 := q1.lt
                  clear HL b8 q1 h8c h8l
                  go_wp2_with (at_builtin; refine Lib.wpList_append_run _ rfl _ _ _ _ rfl _ _ rfl rfl _ _ hrun ?_)
                  exact ⟨by have := HL9.out; push_cast at this; exact this, by simp [intOf]; omega⟩
              · rw [g2] at HPL
                have hOB0 : ob = false := by
                  rw [HOG.out]
                  have h1 : okL l (m.ptv a) = false := by rw [HPV.out]; exact okL_no (HPM.out rfl) g1
                  have h2 : okN m l ln = false := by
                    cases h3 : okN m l ln
                    · rfl
                    · unfold okN at h3
                      rw [← HLN.out, List.take_of_length_le (Nat.le_refl _)] at h3
                      rw [List.all_eq_true.1 h3 a HLY.out] at h1
                      cases h1
                  rw [h2, Bool.and_false]
                clear g1 g2 HXN HXY HTK HPM HPC HOX HOG
                subst hOB0
                go_wp2_with (fail)
                go_region_with (go_at_call 36; (with_reducible refine HGC.out.mono ?_); rintro e w8 ⟨rfl, k8⟩)
                all_goals
                  have K8 : Up w6 w8 := (Up.refl w6).drew.trans k8
                  have HK8 := Lib.hid K8
                  clear h7c h7l hcl6 hll6 qM6 lM6 k8 K8
                  go_wp2_with (fail)
                  refine (HPL.out _ HK8.out).mono ?_
                  rintro e w8' ⟨rfl, rfl⟩
                  have HU8 := Lib.hid ((HUW.out.trans HU6.out).trans HK8.out)
                  have bR8 := ((HR1.out.up HMB.out.up).up HU6.out).up HK8.out
                  have r8c := bR8.cell
                  have r8f := bR8.frozen
                  have r8l := bR8.lt
                  have HR8 := Lib.hid bR8
                  clear bR8
                  go_wp2_with (fail)
                  have bR9 : Blk ((w8.setCell ⟨w.heap.size + 1, 0, none⟩ (.slice none 0 0)).setCell ⟨w.heap.size + 1, 1, none⟩ (.slice none 0 0)) (w.heap.size + 1) 30 gcz := by simpa using (HR8.out.set_ 0 (.slice none 0 0)).set_ 1 (.slice none 0 0)
                  have h5 := bR9.cell
                  have h5l := bR9.lt
                  refine bodyPost_ret (v := .tuple #[gr0, .int .i64 10]) (by simp [results, Tryz.results12, go_sem, h5, h5l, Nat.ne_of_lt h5l]) rfl ?_
                  exact ⟨rfl, (HU8.out.setCell (Nat.le_succ _) _).setCell (Nat.le_succ _) _⟩
          · obtain rfl : z = lo := by omega
            have hxx := okx_all l n HLO.out.symm
            rw [hox] at hxx
            have hrow : (mpF (pl l) n).2.take z = (mpF (pl l) n).2 := List.take_of_length_le (by rw [mp_len, HLO.out]; exact Nat.le_refl _)
            rw [hrow] at ho
            have hN5 := HMB.out.upw U6
            have kx : Up w6 (w6.alloc (.cells #[.int .i64 n.1.1, .int .i64 (z : Nat), .int .u64 n.1.2.2, .slice A1 z c1] 71)) := (Up.refl w6).alloc _
            have hnl := nso_len m l (show x ≤ l.length by rw [HLN.out]; omega)
            have hown := own_up hN5.own kx
            obtain ⟨v2, wb, hrun2, ho2, hgb, -⟩ := run_any el_node (w := w6.alloc (.cells #[.int .i64 n.1.1, .int .i64 (z : Nat), .int .u64 n.1.2.2, .slice A1 z c1] 71)) 27 w1.heap.size (nso m l x).length vn _ hown (some ⟨w6.heap.size, 0, none⟩) 1 1 [.int .i64 n.1.1, .int .i64 (z : Nat), .int .u64 n.1.2.2, .slice A1 z c1] rfl (rv_of_blk (Blk.new w6 _ _) (fun i u hi => by simpa using hi)) (by intro z hz; simp only [List.mem_cons, List.not_mem_nil, or_false] at hz; rcases hz with rfl | rfl | rfl | rfl <;> rfl) (by rw [hnl]; omega) (Nat.le_trans hN5.up.size kx.size)
            obtain ⟨A2, c2, rfl⟩ := own_slice ho2
            obtain ⟨An, cn, rfl⟩ := own_slice hown
            have hfin := HMB.out.fin (nd := mpF (pl l) n) (u := .slice A1 z c1) (v2 := .slice A2 ((nso m l x).length + 1) c2) (wb := wb) (U6.trans kx) (by rw [mp_len, HLO.out]; exact own_up ho kx) (by have h := ho2; rw [HN11.out] at h; exact h) hgb
            obtain ⟨hN6, hOb⟩ := hfin
            rw [← hns.out] at hN6
            rw [hnl] at hN6 hrun2
            have HL9 : Hid (L1_ m l w1 OB (.int .i64 ((x + 1 : Nat) : Int)) (wb.setCell ⟨OB, 0, none⟩ (.slice A2 (x + 1) c2))) := Lib.hid ⟨x + 1, _, _, by rw [HLN.out]; omega, rfl, by rw [HOK.out, HOK0.out, HPV.out, ← hxx]; rfl, hN6⟩
            have qO5 := hN5.bO.cell
            have lO5 := hN5.bO.lt
            have qN5 := bN.cell
            have lN5 := bN.lt
            have qOb := hOb.cell
            have fOb := hOb.frozen
            have lOb := hOb.lt
            rw [hnl] at qO5 qOb
            clear hox hxx hrow ho hN5 kx hnl hown ho2 hgb hN6 hOb bH bN U6
            go_wp2_with (at_builtin; refine Lib.wpList_append_run _ rfl _ _ _ _ rfl _ _ rfl rfl _ _ hrun2 ?_)
            exact ⟨by have := HL9.out; push_cast at this; exact this, by simp [intOf]; omega⟩
    · obtain rfl : x = ln := by omega
      have hok' : okN m l x = true := hok
      rw [hok', Bool.and_true] at HOG
      obtain ⟨An, cn, hvn⟩ := own_slice hM.own
      subst hvn
      have hMS := hM.ms
      have HM0 := Lib.hid hMS
      obtain ⟨ns, hns⟩ : ∃ ns, nso m l x = ns := ⟨_, rfl⟩
      rw [hns] at HM0 HOFG
      have hnl : ns.length = x := by rw [← hns]; exact nso_len m l (by rw [HLN.out]; exact Nat.le_refl _)
      have HNL := Lib.hid hnl
      have HUWM := hM.up
      have HST3 : Hid (L3_ l L w1 OB ns (.slice An ns.length cn) us (.int .i64 ((0 : Nat) : Int)) wr) := Lib.hid ⟨0, [], .slice none 0 0, Nat.zero_le _, rfl, rfl, HM0.out⟩
      rw [hnl] at HST3
      have HRW := Lib.hid (fun W (k : Up w1 W) => HLW.out W (HU1.out.trans k))
      clear hok hok' hM hMS HM0 hns hnl HUWM HST HAT HGT HND
      go_wp2_with (fail)
      go_loopw [17] (fun i wr => L3_ l L w1 OB ns (.slice An x cn) us i wr) (fun i _ => kn - (intOf i).toNat)
      case atStart => exact HST3.out
      case round =>
        rename World => wq
        obtain ⟨j, us2, vs, hj, rfl, hok, hS⟩ := hrel
        rw [HKN.out] at hj
        by_cases hlt : j < kn
        · have hjl : j < L.length := by rw [HKN.out]; exact hlt
          obtain ⟨p, u2, e2, hcu, hsu⟩ := (HRW.out wq hS.up).at_ hlt
          subst e2
          obtain ⟨Ar, cr, rfl⟩ := hsu.slice
          have hlp := lt_of_cell hcu
          rw [block_of_add] at hlp
          have HSU := Lib.hid (fun W (k : Up wq W) => hsu.up k)
          have HCU := Lib.hid (fun W (k : Up wq W) => k.cell hcu)
          have HS := Lib.hid hS
          have HOK := Lib.hid hok
          have hfl1 := jflat_take hjl
          have hfl2 := jflat_le L (j + 1)
          have hfl3 := HFL.out
          have hrl : (L.getD j []).length ≤ 1048576 := by rw [hfl1, List.length_append] at hfl2; omega
          have HFT := Lib.hid hfl1
          have HMEM := Lib.hid (fun y (hy : y ∈ L.getD j []) => List.mem_flatten.2 ⟨L.getD j [], getD_mem [] hjl, hy⟩)
          have HTK2 : Hid (L.take (j + 1) = L.take j ++ [L.getD j []]) := Lib.hid (by
            rw [List.take_succ_eq_append_getElem hjl]
            simp [List.getD, List.getElem?_eq_getElem hjl])
          have hsn := hS.own
          have hjL := hjl
          obtain ⟨row, hrow⟩ : ∃ row, L.getD j [] = row := ⟨_, rfl⟩
          rw [hrow] at HSU HCU hcu hrl HFT HMEM HTK2
          obtain ⟨rn, hrn⟩ : ∃ rn, row.length = rn := ⟨_, rfl⟩
          rw [hrn] at HSU HCU hcu hrl
          have HRN := Lib.hid hrn
          have bR5 := HR1.out.up hS.up
          have HB5 := Lib.hid bR5
          have HUS := Lib.hid (HU1.out.trans hS.up)
          have HSF := Lib.hid (fun W (k : Up wq W) => HSL.out W (hS.up.trans k))
          clear hrow hrn hS hsu hok hfl1 hfl2 hfl3 hsn bR5 hjL
          go_wp2_with (fail)
          go_loopw [18, 19] (fun u i w5 => L4_ l row wq u i w5) (fun _ i _ => rn - (intOf i).toNat)
          case atStart => exact ⟨0, Nat.zero_le _, rfl, rfl, World.ownsRow_nil _ _ _ _, Up.refl _⟩
          case round =>
            rename World => w5
            obtain ⟨z, hz, rfl, hoz, hu, U⟩ := hrel
            rw [HRN.out] at hz
            have hc5 := HCU.out w5 U
            have hlp5 := U.lt hlp
            obtain ⟨Au, cau, rfl⟩ := own_slice hu
            by_cases hlz : z < rn
            · obtain ⟨pe, e3, hce⟩ := (HSU.out w5 U).at_ hlz
              subst e3
              have hle := lt_of_cell hce
              rw [block_of_add] at hle
              have hzr : z < row.length := by rw [HRN.out]; exact hlz
              have HTK := Lib.hid (take_snoc' hzr)
              have HME := Lib.hid (HMEM.out (row.getD z 0) (getD_mem 0 hzr))
              have HPC := Lib.hid (plm_cases l (row.getD z 0) HZ.out)
              have HPL := Lib.hid (rplacem_any (.slice Ay x cy) l (row.getD z 0) w5 (HSF.out w5 U))
              generalize row.getD z 0 = y at *
              have HHU := Lib.hid hu
              have HU := Lib.hid U
              have HOZ := Lib.hid hoz
              clear hu U hoz hzr
              rcases HPC.out with ⟨g1, g2, g3, g4⟩ | ⟨g1, g2⟩
              · rw [g2] at HPL
                have HT1 : Hid (okL l (row.take (z + 1)) = true) := Lib.hid (by rw [HTK.out, okL_snoc, HOZ.out, decide_eq_true g1]; rfl)
                obtain ⟨q, hq⟩ : ∃ q, pl l y = q := ⟨_, rfl⟩
                have HQ := Lib.hid hq
                rw [hq] at HPL g3 g4
                have hq0 : decide (q < 0) = false := decide_eq_false (by omega)
                clear hq g1 g2 HPC
                go_wp2_with (fail)
                refine HPL.out.mono ?_
                rintro e w6 ⟨rfl, rfl⟩
                obtain ⟨v9, w9, hrun, r2, r3⟩ := app_i (a := q) HHU.out (by omega) HU.out.size
                have kd : Up w5 (w5.alloc (.cells #[.int .i64 q] 3)) := (Up.refl w5).alloc _
                have HL4 : Hid (L4_ l row wq v9 (.int .i64 ((z + 1 : Nat) : Int)) w9) := Lib.hid ⟨z + 1, by rw [HRN.out]; omega, rfl, HT1.out, by rw [HTK.out, List.map_append, List.map_append, List.map_singleton, HQ.out]; exact r2, (HU.out.trans kd).grown r3 (fun g e => (World.ownsRow.lt (own_up HHU.out kd) g e).1)⟩
                clear r2 r3 kd
                go_wp2_with (at_builtin; refine Lib.wpList_append_run _ rfl _ _ _ _ rfl _ _ rfl rfl _ _ hrun ?_)
                exact ⟨by have := HL4.out; push_cast at this; exact this, by simp [intOf]; omega⟩
              · rw [g2] at HPL
                have hOB0 : ob = false := by
                  rw [HOG.out]
                  exact okL_no HME.out g1
                clear g1 g2 HPC HOG
                subst hOB0
                go_wp2_with (fail)
                refine HPL.out.mono ?_
                rintro e w6 ⟨rfl, rfl⟩
                have HU8 := Lib.hid (HUS.out.trans HU.out)
                have bR8 := HB5.out.up HU.out
                have r8c := bR8.cell
                have r8f := bR8.frozen
                have r8l := bR8.lt
                have HR8 := Lib.hid bR8
                clear bR8
                go_wp2_with (fail)
                have bR9 : Blk ((w5.setCell ⟨w.heap.size + 1, 0, none⟩ (.slice none 0 0)).setCell ⟨w.heap.size + 1, 1, none⟩ (.slice none 0 0)) (w.heap.size + 1) 30 gcz := by simpa using (HR8.out.set_ 0 (.slice none 0 0)).set_ 1 (.slice none 0 0)
                have h5 := bR9.cell
                have h5l := bR9.lt
                refine bodyPost_ret (v := .tuple #[gr0, .int .i64 10]) (by simp [results, Tryz.results12, go_sem, h5, h5l, Nat.ne_of_lt h5l]) rfl ?_
                exact ⟨rfl, (HU8.out.setCell (Nat.le_succ _) _).setCell (Nat.le_succ _) _⟩
            · obtain rfl : z = rn := by omega
              have hrow : row.take z = row := List.take_of_length_le (by rw [HRN.out]; exact Nat.le_refl _)
              rw [hrow] at hoz hu
              have hS5 := HS.out.upw U
              have kx : Up w5 (w5.alloc (.cells #[.slice Au z cau] 72)) := (Up.refl w5).alloc _
              have hown := own_up hS5.own kx
              have hKl : ((L.take j).map fun row => row.map (pl l)).length = j := by rw [List.length_map, List.length_take]; omega
              obtain ⟨v2, wb, hrun2, ho2, hgb, -⟩ := run_any el_row (w := w5.alloc (.cells #[.slice Au z cau] 72)) 28 w1.heap.size ((L.take j).map fun row => row.map (pl l)).length vs _ hown (some ⟨w5.heap.size, 0, none⟩) 1 1 [.slice Au z cau] rfl (rv_of_blk (Blk.new w5 _ _) (fun i u hi => by simpa using hi)) (by intro z hz; rw [List.mem_singleton] at hz; subst hz; rfl) (by rw [hKl]; omega) (Nat.le_trans hS5.up.size kx.size)
              obtain ⟨A2, c2, rfl⟩ := own_slice ho2
              obtain ⟨As, cs, rfl⟩ := own_slice hown
              have hfin := HS.out.fin (row := row.map (pl l)) (u := .slice Au z cau) (wb := wb) (U.trans kx) (by rw [List.length_map, HRN.out]; exact own_up hu kx) ho2 hgb
              obtain ⟨hN6, hOb⟩ := hfin
              have e7 : (L.take j).map (fun row => row.map (pl l)) ++ [row.map (pl l)] = (L.take (j + 1)).map fun row => row.map (pl l) := by rw [HTK2.out, List.map_append]; rfl
              rw [e7] at hN6
              rw [hKl] at hN6 hrun2
              have HL9 : Hid (L3_ l L w1 OB ns (.slice An x cn) us (.int .i64 ((j + 1 : Nat) : Int)) (wb.setCell ⟨OB, 1, none⟩ (.slice A2 (j + 1) c2))) := Lib.hid ⟨j + 1, _, _, by rw [HKN.out]; omega, rfl, by rw [HFT.out, okL_app, HOK.out, hoz]; rfl, hN6⟩
              have qO5 := hS5.bO.cell
              have lO5 := hS5.bO.lt
              have qOb := hOb.cell
              have fOb := hOb.frozen
              have lOb := hOb.lt
              rw [hKl] at qO5 qOb
              clear hrow hoz hu hS5 kx hown hKl ho2 hgb hN6 hOb e7 U
              go_wp2_with (at_builtin; refine Lib.wpList_append_run _ rfl _ _ _ _ rfl _ _ rfl rfl _ _ hrun2 ?_)
              exact ⟨by have := HL9.out; push_cast at this; exact this, by simp [intOf]; omega⟩
        · obtain rfl : j = kn := by omega
          have hall : L.take j = L := List.take_of_length_le (by rw [HKN.out]; exact Nat.le_refl _)
          rw [hall] at hok hS
          rw [hok] at HOG
          have hob := HOG.out
          have hKl : (L.map fun row => row.map (pl l)).length = j := by rw [List.length_map, HKN.out]
          have hso := hS.own
          obtain ⟨As, cs, rfl⟩ := own_slice hso
          have qO := hS.bO.cell
          have lO := hS.bO.lt
          rw [hKl] at qO
          have bR8 := HR1.out.up hS.up
          have r8c := bR8.cell
          have r8f := bR8.frozen
          have r8l := bR8.lt
          have HR8 := Lib.hid bR8
          have HU8 := Lib.hid (HU1.out.trans hS.up)
          have HGR := Lib.hid (fun W' hk => hS.gr (w' := W') hk)
          rw [hKl] at HGR
          clear hall hok hS hKl hso bR8 HOG
          subst hob
          go_wp2_with (fail)
          have bR9 : Blk ((wq.setCell ⟨w.heap.size + 1, 0, none⟩ (.slice An x cn)).setCell ⟨w.heap.size + 1, 1, none⟩ (.slice As j cs)) (w.heap.size + 1) 30 #[.slice An x cn, .slice As j cs] := by simpa using (HR8.out.set_ 0 (.slice An x cn)).set_ 1 (.slice As j cs)
          have h5 := bR9.cell
          have h5l := bR9.lt
          refine bodyPost_ret (v := .tuple #[.agg #[.slice An x cn, .slice As j cs], .int .i64 0]) (by simp [results, Tryz.results12, go_sem, h5, h5l, Nat.ne_of_lt h5l]) rfl ?_
          refine ⟨An, cn, As, cs, rfl, ?_, (HU8.out.setCell (Nat.le_succ _) _).setCell (Nat.le_succ _) _⟩
          rw [HOFG.out]
          exact HGR.out _ (fun b t cs ht hb => (hb.far (p := ⟨w.heap.size + 1, 0, none⟩) (hb.ne_type HR8.out ht) _).far (p := ⟨w.heap.size + 1, 1, none⟩) (hb.ne_type HR8.out ht) _)
end Go.Proofs.YtanhhkdoejnpiaaGreat.G
