/- The graph of memory (view.Of): contract. -/
import Derived.Test.YtanhhkdoejnpiaaGreatRg
import Derived.Deep.CutRange
namespace Go.Proofs.YtanhhkdoejnpiaaGreat.G
open Go.Joins Go.ChangeShapes Go.WideShapes Go.ChangeAt Go.RowKit Go.Deep Go.Shelf Go.Maps
set_option linter.unusedVariables false
set_option linter.unusedSimpArgs false

abbrev gr0 : Value := .agg #[.slice none 0 0, .slice none 0 0]
abbrev gcz : Array Value := #[.slice none 0 0, .slice none 0 0]
def OfNo (w : World) (e : Ending) (w' : World) : Prop := e = .returned (.tuple #[gr0, .int .i64 10]) ∧ Up w w'
def OfYes (m : Me) (L : List (List Int)) (w : World) (e : Ending) (w' : World) : Prop :=
  ∃ A c B d, e = .returned (.tuple #[.agg #[.slice A (m.rch L.flatten).length c, .slice B L.length d], .int .i64 0]) ∧ GrV w' (.agg #[.slice A (m.rch L.flatten).length c, .slice B L.length d]) (ofG m L) ∧ Up w w'
/-- What is kept behind the closures' making. -/
structure Oe (m : Me) (P Q : Addr) (c d : Nat) (l : List Int) (A : Option Addr) (cl B M Bl Bf Bm Br : Nat) (w wr : World) : Prop where
  bM : Blk wr Bm 25 (mec m.n P Q c d)
  sM : Sits wr m P Q c d
  bR : Blk wr Br 30 gcz
  bF : Blk wr Bf 78 #[.func (.func 29) #[] #[bx B, bx Bl]]
  nm : NmBox wr B M l
  sl : Sl .u64 wr (.slice A l.length cl) l
structure OfS (m : Me) (L : List (List Int)) (l : List Int) (Bl GN GS Bg : Nat) (wq : World) (us us2 : List Value) (x : Nat) (wr : World) : Prop where
  kp : Kp [Bl] wq wr
  ge : wq.heap.size ≤ GN ∧ wq.heap.size ≤ GS ∧ wq.heap.size ≤ Bg
  bg : Blk wr Bg 30 #[.slice (some ⟨GN, 0, none⟩) l.length l.length, .slice (some ⟨GS, 0, none⟩) L.length L.length]
  gn : Blk wr GN 71 (nvs (nsx m l x) us).toArray
  ul : us.length = l.length
  ur : ∀ i, i < x → ∃ gi Li, us[i]? = some (.slice (some ⟨gi, 0, none⟩) Li Li) ∧ Li = (mpF (pl l) (ndm m (l.getD i 0))).2.length ∧ Blk wr gi 67 ((mpF (pl l) (ndm m (l.getD i 0))).2.map (Value.int .u64)).toArray
  gs : Blk wr GS 72 us2.toArray
  rows : OwL wq.heap.size wr us2 (L.map fun row => row.map (pl l))
  bl : Blk wr Bl 4 #[.bool (!(okL l L.flatten && okN m l x))]
theorem ofS_mk {m : Me} {L : List (List Int)} {l : List Int} {B M Bl GN GS Bg R x : Nat} {wq W wz W' : World} {us2 : List Value} (hx : l.length = x) (hR : L.length = R) (hW : Up wq W) (hT : TuI L l B M Bl GS false W us2 (L.map fun row => row.map (pl l)) L.flatten wz) (hg : W.heap.size ≤ GS)
    (h1 : Kp [Bl] wq W') (h2 : ∀ g t cs, t ≠ 30 → Blk wz g t cs → Blk W' g t cs) (h3 : Blk W' Bg 30 #[.slice (some ⟨GN, 0, none⟩) x x, .slice (some ⟨GS, 0, none⟩) R R])
    (h4 : Blk W' GN 71 (nvs (List.replicate x ndN) (List.replicate x (.slice none 0 0))).toArray) (h5 : wq.heap.size ≤ GN) (h6 : wq.heap.size ≤ Bg) : OfS m L l Bl GN GS Bg wq (List.replicate x (.slice none 0 0)) us2 0 W' := by
  subst hx
  subst hR
  refine ⟨h1, ⟨h5, Nat.le_trans hW.size hg, h6⟩, h3, by rw [nsx_0]; exact h4, by simp, fun i hi => absurd hi (Nat.not_lt_zero _), h2 _ _ _ (by decide) hT.bG, ?_, ?_⟩
  · exact ⟨hT.rows.l, fun k u xs q1 q2 => own_le (own_keep (hT.rows.r k u xs q1 q2) (fun b cs hb => h2 _ _ _ (by decide) hb)) hW.size⟩
  · have := h2 _ _ _ (by decide) hT.bl
    simpa [okN] using this
theorem ofS_1 {m : Me} {L : List (List Int)} {l : List Int} {B M Bl GS R x : Nat} {wq wz : World} {us2 : List Value} (hx : l.length = x) (hR : L.length = R) (hb : Bl < wq.heap.size) (hT : TuI L l B M Bl GS false ((wq.alloc (.cells (nvs (List.replicate x ndN) (List.replicate x (.slice none 0 0))).toArray 71)).drew) us2 (L.map fun row => row.map (pl l)) L.flatten wz) (hg : ((wq.alloc (.cells (nvs (List.replicate x ndN) (List.replicate x (.slice none 0 0))).toArray 71)).drew).heap.size ≤ GS) :
    OfS m L l Bl wq.heap.size GS wz.heap.size wq (List.replicate x (.slice none 0 0)) us2 0 (wz.alloc (.cells #[.slice (some ⟨wq.heap.size, 0, none⟩) x x, .slice (some ⟨GS, 0, none⟩) R R] 30)) := by
  have hW : Up wq (wq.alloc (.cells (nvs (List.replicate x ndN) (List.replicate x (.slice none 0 0))).toArray 71)).drew := ((Up.refl wq).alloc _).drew
  have hs := hT.kp.size
  have hs2 := hW.size
  exact ofS_mk hx hR hW hT hg (((Kp.of_up hW).trans hT.kp).up ((Up.refl wz).alloc _)) (fun g t cs ht hb => hb.alloc _) (Blk.new wz _ _) (((Blk.new wq _ _).drew.kp hT.kp (by simp; omega)).alloc _) (Nat.le_refl _) (Nat.le_trans hs2 hs)
theorem ofS_2 {m : Me} {L : List (List Int)} {l : List Int} {B M Bl GS R x : Nat} {wq wz : World} {us2 : List Value} (hx : l.length = x) (hR : L.length = R) (hb : Bl < wq.heap.size) (hT : TuI L l B M Bl GS false (((wq.alloc (.cells (nvs (List.replicate x ndN) (List.replicate x (.slice none 0 0))).toArray 71)).alloc (.cells gcz 30)).drew) us2 (L.map fun row => row.map (pl l)) L.flatten wz) (hg : (((wq.alloc (.cells (nvs (List.replicate x ndN) (List.replicate x (.slice none 0 0))).toArray 71)).alloc (.cells gcz 30)).drew).heap.size ≤ GS) :
    OfS m L l Bl wq.heap.size GS (wq.heap.size + 1) wq (List.replicate x (.slice none 0 0)) us2 0 ((wz.setCell ⟨wq.heap.size + 1, 0, none⟩ (.slice (some ⟨wq.heap.size, 0, none⟩) x x)).setCell ⟨wq.heap.size + 1, 1, none⟩ (.slice (some ⟨GS, 0, none⟩) R R)) := by
  have hW : Up wq ((wq.alloc (.cells (nvs (List.replicate x ndN) (List.replicate x (.slice none 0 0))).toArray 71)).alloc (.cells gcz 30)).drew := (((Up.refl wq).alloc _).alloc _).drew
  have MB : Blk wz (wq.heap.size + 1) 30 gcz := ((Blk.new' (wq.alloc (.cells (nvs (List.replicate x ndN) (List.replicate x (.slice none 0 0))).toArray 71)) (g := wq.heap.size + 1) (by simp) 30 gcz).drew).kp hT.kp (by simp; omega)
  have MN : Blk wz wq.heap.size 71 (nvs (List.replicate x ndN) (List.replicate x (.slice none 0 0))).toArray := (((Blk.new wq _ _).alloc (.cells gcz 30)).drew).kp hT.kp (by simp; omega)
  have hfar : ∀ g t cs, t ≠ 30 → Blk wz g t cs → Blk ((wz.setCell ⟨wq.heap.size + 1, 0, none⟩ (.slice (some ⟨wq.heap.size, 0, none⟩) x x)).setCell ⟨wq.heap.size + 1, 1, none⟩ (.slice (some ⟨GS, 0, none⟩) R R)) g t cs := fun g t cs ht hb =>
    (hb.far (p := ⟨wq.heap.size + 1, 0, none⟩) (hb.ne_type MB ht) _).far (p := ⟨wq.heap.size + 1, 1, none⟩) (hb.ne_type MB ht) _
  refine ofS_mk hx hR hW hT hg (kp_new (kp_new ((Kp.of_up hW).trans hT.kp) (by omega) _) (by omega) _) hfar ?_ (hfar _ _ _ (by decide) MN) (Nat.le_refl _) (by omega)
  simpa using (MB.set_ 0 (.slice (some ⟨wq.heap.size, 0, none⟩) x x)).set_ 1 (.slice (some ⟨GS, 0, none⟩) R R)
theorem ofS_3 {m : Me} {L : List (List Int)} {l : List Int} {B M Bl GS R x : Nat} {wq wz : World} {us2 : List Value} (hx : l.length = x) (hR : L.length = R) (hb : Bl < wq.heap.size) (hT : TuI L l B M Bl GS false (wq.drew) us2 (L.map fun row => row.map (pl l)) L.flatten wz) (hg : (wq.drew).heap.size ≤ GS) :
    OfS m L l Bl wz.heap.size GS (wz.heap.size + 1) wq (List.replicate x (.slice none 0 0)) us2 0 ((wz.alloc (.cells (nvs (List.replicate x ndN) (List.replicate x (.slice none 0 0))).toArray 71)).alloc (.cells #[.slice (some ⟨wz.heap.size, 0, none⟩) x x, .slice (some ⟨GS, 0, none⟩) R R] 30)) := by
  have hW : Up wq wq.drew := (Up.refl wq).drew
  have hs : wq.heap.size ≤ wz.heap.size := hT.kp.size
  exact ofS_mk hx hR hW hT hg (((Kp.of_up hW).trans hT.kp).up (((Up.refl wz).alloc _).alloc _)) (fun g t cs ht hb => (hb.alloc _).alloc _) (Blk.new' _ (by simp) _ _) ((Blk.new wz _ _).alloc _) hs (by omega)
theorem ofS_4 {m : Me} {L : List (List Int)} {l : List Int} {B M Bl GS R x : Nat} {wq wz : World} {us2 : List Value} (hx : l.length = x) (hR : L.length = R) (hb : Bl < wq.heap.size) (hT : TuI L l B M Bl GS false (wq.drew) us2 (L.map fun row => row.map (pl l)) L.flatten wz) (hg : (wq.drew).heap.size ≤ GS) :
    OfS m L l Bl (wz.heap.size + 1) GS wz.heap.size wq (List.replicate x (.slice none 0 0)) us2 0 ((wz.alloc (.cells #[.slice (some ⟨wz.heap.size + 1, 0, none⟩) x x, .slice (some ⟨GS, 0, none⟩) R R] 30)).alloc (.cells (nvs (List.replicate x ndN) (List.replicate x (.slice none 0 0))).toArray 71)) := by
  have hW : Up wq wq.drew := (Up.refl wq).drew
  have hs : wq.heap.size ≤ wz.heap.size := hT.kp.size
  exact ofS_mk hx hR hW hT hg (((Kp.of_up hW).trans hT.kp).up (((Up.refl wz).alloc _).alloc _)) (fun g t cs ht hb => (hb.alloc _).alloc _) ((Blk.new wz _ _).alloc _) (Blk.new' _ (by simp) _ _) (by omega) hs
theorem ofS_5 {m : Me} {L : List (List Int)} {l : List Int} {B M Bl GS R x : Nat} {wq wz : World} {us2 : List Value} (hx : l.length = x) (hR : L.length = R) (hb : Bl < wq.heap.size) (hT : TuI L l B M Bl GS false (((wq.alloc (.cells gcz 30)).alloc (.cells (nvs (List.replicate x ndN) (List.replicate x (.slice none 0 0))).toArray 71)).drew) us2 (L.map fun row => row.map (pl l)) L.flatten wz) (hg : (((wq.alloc (.cells gcz 30)).alloc (.cells (nvs (List.replicate x ndN) (List.replicate x (.slice none 0 0))).toArray 71)).drew).heap.size ≤ GS) :
    OfS m L l Bl (wq.heap.size + 1) GS wq.heap.size wq (List.replicate x (.slice none 0 0)) us2 0 ((wz.setCell ⟨wq.heap.size, 0, none⟩ (.slice (some ⟨wq.heap.size + 1, 0, none⟩) x x)).setCell ⟨wq.heap.size, 1, none⟩ (.slice (some ⟨GS, 0, none⟩) R R)) := by
  have hW : Up wq ((wq.alloc (.cells gcz 30)).alloc (.cells (nvs (List.replicate x ndN) (List.replicate x (.slice none 0 0))).toArray 71)).drew := (((Up.refl wq).alloc _).alloc _).drew
  have MB : Blk wz wq.heap.size 30 gcz := (((Blk.new wq _ _).alloc (.cells (nvs (List.replicate x ndN) (List.replicate x (.slice none 0 0))).toArray 71)).drew).kp hT.kp (by simp; omega)
  have MN : Blk wz (wq.heap.size + 1) 71 (nvs (List.replicate x ndN) (List.replicate x (.slice none 0 0))).toArray := ((Blk.new' (wq.alloc (.cells gcz 30)) (by simp) _ _).drew).kp hT.kp (by simp; omega)
  have hfar : ∀ g t cs, t ≠ 30 → Blk wz g t cs → Blk ((wz.setCell ⟨wq.heap.size, 0, none⟩ (.slice (some ⟨wq.heap.size + 1, 0, none⟩) x x)).setCell ⟨wq.heap.size, 1, none⟩ (.slice (some ⟨GS, 0, none⟩) R R)) g t cs := fun g t cs ht hb =>
    (hb.far (p := ⟨wq.heap.size, 0, none⟩) (hb.ne_type MB ht) _).far (p := ⟨wq.heap.size, 1, none⟩) (hb.ne_type MB ht) _
  refine ofS_mk hx hR hW hT hg (kp_new (kp_new ((Kp.of_up hW).trans hT.kp) (by omega) _) (by omega) _) hfar ?_ (hfar _ _ _ (by decide) MN) (by omega) (Nat.le_refl _)
  simpa using (MB.set_ 0 (.slice (some ⟨wq.heap.size + 1, 0, none⟩) x x)).set_ 1 (.slice (some ⟨GS, 0, none⟩) R R)
theorem ofS_6 {m : Me} {L : List (List Int)} {l : List Int} {B M Bl GS R x : Nat} {wq wz : World} {us2 : List Value} (hx : l.length = x) (hR : L.length = R) (hb : Bl < wq.heap.size) (hT : TuI L l B M Bl GS false ((wq.alloc (.cells gcz 30)).drew) us2 (L.map fun row => row.map (pl l)) L.flatten wz) (hg : ((wq.alloc (.cells gcz 30)).drew).heap.size ≤ GS) :
    OfS m L l Bl wz.heap.size GS wq.heap.size wq (List.replicate x (.slice none 0 0)) us2 0 (((wz.setCell ⟨wq.heap.size, 0, none⟩ (.slice (some ⟨wz.heap.size, 0, none⟩) x x)).setCell ⟨wq.heap.size, 1, none⟩ (.slice (some ⟨GS, 0, none⟩) R R)).alloc (.cells (nvs (List.replicate x ndN) (List.replicate x (.slice none 0 0))).toArray 71)) := by
  have hW : Up wq (wq.alloc (.cells gcz 30)).drew := ((Up.refl wq).alloc _).drew
  have MB : Blk wz wq.heap.size 30 gcz := ((Blk.new wq _ _).drew).kp hT.kp (by simp; omega)
  have hs := Nat.le_trans hW.size hT.kp.size
  have hfar : ∀ g t cs, t ≠ 30 → Blk wz g t cs → Blk (((wz.setCell ⟨wq.heap.size, 0, none⟩ (.slice (some ⟨wz.heap.size, 0, none⟩) x x)).setCell ⟨wq.heap.size, 1, none⟩ (.slice (some ⟨GS, 0, none⟩) R R)).alloc (.cells (nvs (List.replicate x ndN) (List.replicate x (.slice none 0 0))).toArray 71)) g t cs := fun g t cs ht hb =>
    ((hb.far (p := ⟨wq.heap.size, 0, none⟩) (hb.ne_type MB ht) _).far (p := ⟨wq.heap.size, 1, none⟩) (hb.ne_type MB ht) _).alloc _
  refine ofS_mk hx hR hW hT hg ((kp_new (kp_new ((Kp.of_up hW).trans hT.kp) (by omega) _) (by omega) _).up ((Up.refl _).alloc _)) hfar (Blk.alloc ?_ _) (Blk.new' _ (by simp) _ _) hs (Nat.le_refl _)
  simpa using (MB.set_ 0 (.slice (some ⟨wz.heap.size, 0, none⟩) x x)).set_ 1 (.slice (some ⟨GS, 0, none⟩) R R)
theorem OfS.step {m : Me} {L : List (List Int)} {l : List Int} {Bl GN GS Bg x : Nat} {wq wr wz : World} {us us2 : List Value} (h : OfS m L l Bl GN GS Bg wq us us2 x wr) (hx : x < l.length) (hb0 : Bl < wq.heap.size) {gi Li : Nat} (hg : wr.heap.size ≤ gi)
    (hL : Li = (mpF (pl l) (ndm m (l.getD x 0))).2.length) (hG : Blk wz gi 67 ((mpF (pl l) (ndm m (l.getD x 0))).2.map (Value.int .u64)).toArray)
    (hbl : Blk wz Bl 4 #[.bool (!(okL l L.flatten && okN m l x) || !okL l (m.ptv (l.getD x 0)))]) (hk : Kp [Bl] wr wz) {n : Nd} (hn : ndm m (l.getD x 0) = n) :
    OfS m L l Bl GN GS Bg wq (us.set x (.slice (some ⟨gi, 0, none⟩) Li Li)) us2 (x + 1) ((((wz.setCell ⟨GN, x * 4, none⟩ (.int .i64 n.1.1)).setCell ⟨GN, x * 4 + 1, none⟩ (.int .i64 n.1.2.1)).setCell ⟨GN, x * 4 + 2, none⟩ (.int .u64 n.1.2.2)).setCell ⟨GN, x * 4 + 3, none⟩ (.slice (some ⟨gi, 0, none⟩) Li Li)) := by
  subst hn
  obtain ⟨g1, g2, g3⟩ := h.ge
  have nG : GN ∉ [Bl] := by simp; omega
  have nS : GS ∉ [Bl] := by simp; omega
  have nB : Bg ∉ [Bl] := by simp; omega
  have bN := h.gn.kp hk nG
  have hfar : ∀ g t cs, t ≠ 71 → Blk wz g t cs → Blk ((((wz.setCell ⟨GN, x * 4, none⟩ (.int .i64 (ndm m (l.getD x 0)).1.1)).setCell ⟨GN, x * 4 + 1, none⟩ (.int .i64 (ndm m (l.getD x 0)).1.2.1)).setCell ⟨GN, x * 4 + 2, none⟩ (.int .u64 (ndm m (l.getD x 0)).1.2.2)).setCell ⟨GN, x * 4 + 3, none⟩ (.slice (some ⟨gi, 0, none⟩) Li Li)) g t cs := fun g t cs ht hb => by
    have hne : g ≠ GN := hb.ne_type bN ht
    exact (((hb.far (p := ⟨GN, x * 4, none⟩) hne _).far (p := ⟨GN, x * 4 + 1, none⟩) hne _).far (p := ⟨GN, x * 4 + 2, none⟩) hne _).far (p := ⟨GN, x * 4 + 3, none⟩) hne _
  refine ⟨kp_new (kp_new (kp_new (kp_new (h.kp.trans hk) g1 _) g1 _) g1 _) g1 _, h.ge, hfar _ _ _ (by decide) (h.bg.kp hk nB), ?_, by simp [h.ul], fun i hi => ?_, hfar _ _ _ (by decide) (h.gs.kp hk nS), ?_, ?_⟩
  · have q := (((bN.set_ (x * 4) (.int .i64 (ndm m (l.getD x 0)).1.1)).set_ (x * 4 + 1) (.int .i64 (ndm m (l.getD x 0)).1.2.1)).set_ (x * 4 + 2) (.int .u64 (ndm m (l.getD x 0)).1.2.2)).set_ (x * 4 + 3) (.slice (some ⟨gi, 0, none⟩) Li Li)
    rw [← nsx_step m l hx, ← nvs_put (nsx m l x) us x (mpF (pl l) (ndm m (l.getD x 0))) _ (by rw [nsx_len, h.ul]) (by rw [nsx_len]; exact hx)]
    simpa [mpF] using q
  · rcases Nat.lt_or_eq_of_le (Nat.le_of_lt_succ hi) with q | q
    · obtain ⟨gj, Lj, q1, q2, q3⟩ := h.ur i q
      refine ⟨gj, Lj, by rw [List.getElem?_set_ne (by omega)]; exact q1, q2, hfar _ _ _ (by decide) (q3.kp hk ?_)⟩
      have := q3.lt
      simp only [List.mem_singleton]
      intro e
      subst e
      exact (q3.ne_type h.bl (by decide)) rfl
    · subst q
      exact ⟨gi, Li, List.getElem?_set_self (by rw [h.ul]; exact hx), hL, hfar _ _ _ (by decide) hG⟩
  · exact ⟨h.rows.l, fun k u xs q1 q2 => own_keep (h.rows.r k u xs q1 q2) (fun b cs hb => hfar _ _ _ (by decide) (hb.kp hk (by simpa using hb.ne_type h.bl (by decide))))⟩
  · rw [okN_step m l hx, ← Bool.and_assoc, Bool.not_and]
    exact hfar _ _ _ (by decide) hbl
theorem OfS.gr {m : Me} {L : List (List Int)} {l : List Int} {Bl GN GS Bg x : Nat} {wq wr w' : World} {us us2 : List Value} (h : OfS m L l Bl GN GS Bg wq us us2 x wr) (hx : x = l.length) (h1 : l.length ≤ maxLen) (h2 : L.length ≤ maxLen) (hk : ∀ g t cs, t ≠ 30 → Blk wr g t cs → Blk w' g t cs) :
    GrV w' (.agg #[.slice (some ⟨GN, 0, none⟩) l.length l.length, .slice (some ⟨GS, 0, none⟩) L.length L.length]) (l.map fun a => mpF (pl l) (ndm m a), L.map fun row => row.map (pl l)) := by
  subst hx
  have hn := h.gn
  rw [nsx_all m l rfl] at hn
  have hn2 := hk _ _ _ (by decide) hn
  refine ⟨_, _, rfl, ⟨us, some ⟨GN, 0, none⟩, l.length, by rw [List.length_map], by rw [List.length_map]; exact Nat.le_refl _, h1, fun e => (by cases e), rv_of_blk hn2 (fun j v hj => by simpa using hj), ?_⟩, us2, some ⟨GS, 0, none⟩, L.length, by rw [List.length_map], by rw [List.length_map]; exact Nat.le_refl _, h2, fun e => (by cases e), rv_of_blk (hk _ _ _ (by decide) h.gs) (fun j v hj => by simpa using hj), ?_⟩
  · refine ⟨by simp [h.ul], fun j u xs q1 q2 => ?_⟩
    have hj : j < l.length := by
      rw [← h.ul]
      exact (List.getElem?_eq_some_iff.1 q1).1
    obtain ⟨gj, Lj, q3, q4, q5⟩ := h.ur j hj
    rw [q3] at q1
    cases q1
    have hxs : xs = (mpF (pl l) (ndm m (l.getD j 0))).2 := by
      rw [List.map_map, List.getElem?_map, List.getElem?_eq_getElem hj] at q2
      simp only [Option.map_some, Option.some.injEq, Function.comp] at q2
      rw [← q2]
      simp [List.getD, List.getElem?_eq_getElem hj]
    subst hxs
    have hq := hk _ _ _ (by decide) q5
    refine ⟨some ⟨gj, 0, none⟩, Lj, by rw [q4], by rw [q4]; exact Nat.le_refl _, ?_, fun e => (by cases e), rv_of_blk hq (fun j v hj => by simpa using hj)⟩
    rw [q4, mp_len]
    unfold maxLen
    have : (ndm m (l.getD j 0)).2.length ≤ 9223372036854775807 := by
      simp only [ndm, List.length_map, List.length_range]
      unfold Me.atl
      split
      · unfold lnw; omega
      · simp
    omega
  · exact ⟨by rw [h.rows.l], fun j u xs q1 q2 => sl_ow (own_keep (h.rows.r j u xs q1 q2) (fun b cs hb => hk _ _ _ (by decide) hb)) rfl⟩
theorem up_own_map {W w2 : World} {o : Obj} (hg : (W.alloc o).grownBy w2 (some W.heap.size)) : Up W w2 :=
  Up.grown ((Up.refl W).alloc o) hg (fun k e => by injection e with e; omega)
def LnR (l : List Int) (B M : Nat) (w1 : World) (i : Value) (wr : World) : Prop :=
  ∃ x : Nat, x ≤ l.length ∧ i = .int .i64 x ∧ (∃ D, wr.ownsMap Tryz.prog 67 (plainElem (H := Unit) Tryz.prog 67) M (x + 1) D ∧ NumD (l.take x) D) ∧ Blk wr B 76 #[.map (some M)] ∧ Up w1 wr
set_option maxRecDepth 100000 in
set_option maxHeartbeats 16000000 in
theorem of_any (m : Me) (P Q : Addr) (c d : Nat) (v : Value) (L : List (List Int)) (w : World) (hm : Sits w m P Q c d) (hwf : m.wf) (hL : Rw .u64 w v L) (hO : RwOk L) (hs : L.length ≤ 1048576) :
    Calls Tryz.prog 11 #[mev m.n P Q c d, v] w fun e w' => if ofB m L then OfYes m L w e w' else OfNo w e w' := by
  have hn : m.n ≤ 4096 := hm.1.2.1
  have HC := Lib.hid (fun W (k : Up w W) => reached_any m P Q c d v L W (hm.up k) hwf (hL.up k) hO)
  have HSI := Lib.hid (fun W (k : Up w W) => hm.up k)
  have HLW := Lib.hid (fun W (k : Up w W) => hL.up k)
  have HWF := Lib.hid hwf
  have HOK := Lib.hid hO
  obtain ⟨A, cu, rfl, hmx⟩ := hL.slice
  have hl2 := rch_2n m L.flatten
  have hz := rch_no0 m L.flatten
  obtain ⟨f1, f2, -, -, -⟩ := rch_facts m L.flatten
  have HOB : Hid (ofB m L = (okL (m.rch L.flatten) L.flatten && okN m (m.rch L.flatten) (m.rch L.flatten).length)) := Lib.hid (by
    unfold ofB okN
    rw [List.take_of_length_le (Nat.le_refl _)])
  have HOG : Hid (ofG m L = ((m.rch L.flatten).map fun a => mpF (pl (m.rch L.flatten)) (ndm m a), L.map fun row => row.map (pl (m.rch L.flatten)))) := Lib.hid rfl
  clear hm hL hO hwf hmx
  unfold RchP at HC
  unfold OfYes
  generalize m.rch L.flatten = l at *
  generalize ofB m L = ob at *
  have HZ := Lib.hid hz
  have HNDP := Lib.hid f1
  have HRE := Lib.hid f2
  clear hz f1 f2
  obtain ⟨n, hn1⟩ : ∃ n, l.length = n := ⟨_, rfl⟩
  rw [hn1] at HC hl2 ⊢
  have HNL := Lib.hid hn1
  clear hn1
  have hmm := @run_makeMap Tryz.prog
  go_enter Tryz.func11, Tryz.ntmps11
  go_wp2_with (fail)
  refine (HC.out _ (((Up.refl w).alloc _).alloc _)).mono ?_
  rintro e w1 ⟨Al, cl, rfl, hsl, k1⟩
  have K1 : Up w w1 := (((Up.refl w).alloc (.cells (mec m.n P Q c d) 25)).alloc (.cells gcz 30)).trans k1
  have bM1 : Blk w1 w.heap.size 25 (mec m.n P Q c d) := ((Blk.new w _ _).alloc _).up k1
  have bR1 : Blk w1 (w.heap.size + 1) 30 gcz := (Blk.new' (w.alloc (.cells (mec m.n P Q c d) 25)) (by simp) _ _).up k1
  have hmade := World.ownsMap_made w1 Tryz.prog 67 (plainElem (H := Unit) Tryz.prog 67)
  have hkey0 := key_of u64_0
  have HK1 := Lib.hid K1
  have HM1 := Lib.hid bM1
  have HR1 := Lib.hid bR1
  have HSL := Lib.hid hsl
  clear K1 bM1 bR1 hsl k1 HC
  go_wp2_with (refine wpList_insert_own _ rfl _ _ _ 76 rfl 67 67 law64 Tryz.underlying76 (plainElem (H := Unit) Tryz.prog 67) w1.heap.size 0 (.map []) rfl hmade (by unfold maxLen; omega) _ _ (.int .u64 0) rfl rfl hkey0 (.lit (.int .u64 0)) [] (plainElem_int Tryz.underlying67 (by decide)) ?_; intro w2 hown2 hg2)
  have U2 : Up w1 w2 := up_own_map hg2
  have bP2 := Blk.new w2 76 #[.map (some w1.heap.size)]
  have hown3 := hown2.kept ((Up.refl w2).alloc (.cells #[.map (some w1.heap.size)] 76)).gb (by simp)
  have hst1 : LnR l w2.heap.size w1.heap.size w1 (.int .i64 ((0 : Nat) : Int)) (w2.alloc (.cells #[.map (some w1.heap.size)] 76)) :=
    ⟨0, Nat.zero_le _, rfl, ⟨_, hown3, NumD.nil⟩, bP2, U2.alloc _⟩
  have HST1 := Lib.hid hst1
  have hlt12 : w1.heap.size ≤ w2.heap.size := U2.size
  clear hst1 hown3 bP2 hown2 hg2 hmade hmm hkey0 U2
  generalize hB : w2.heap.size = B at *
  generalize hMm : w1.heap.size = M at *
  have HMM := Lib.hid hMm
  clear hB hMm
  go_loopw [22] (fun i wr => LnR l B M w1 i wr) (fun i _ => n - (intOf i).toNat)
  case atStart => exact HST1.out
  case round =>
    rename World => wr
    obtain ⟨x, hx, rfl, ⟨D, hp, hD⟩, bP, U⟩ := hrel
    rw [HNL.out] at hx
    by_cases hlt : x < n
    · obtain ⟨pe, rfl, hce⟩ := (HSL.out.up U).at_ hlt
      have hle := lt_of_cell hce
      rw [block_of_add] at hle
      have hlx : x < l.length := by rw [HNL.out]; exact hlt
      have hmem : l.getD x 0 ∈ l := getD_mem 0 hlx
      have ha : U64 (l.getD x 0) := real_u64 (HRE.out _ hmem)
      have HTS := Lib.hid (take_snoc' hlx)
      have hno : l.getD x 0 ∉ 0 :: l.take x := by
        rw [List.mem_cons, not_or]
        refine ⟨fun e => HZ.out (e ▸ hmem), fun hin => ?_⟩
        have hnd := HNDP.out
        rw [show l = l.take (x + 1) ++ l.drop (x + 1) from (List.take_append_drop _ _).symm, HTS.out] at hnd
        have := (List.nodup_append.1 (List.nodup_append.1 hnd).1).2.2 _ hin _ (List.mem_singleton.2 rfl)
        exact this rfl
      have hN := hD.new hno
      rw [← HTS.out, show (l.take x).length = x from by rw [List.length_take]; omega] at hN
      have HN2 := Lib.hid hN
      have hkey := key_of ha
      generalize l.getD x 0 = a at *
      have hbc := bP.cell
      have hbl := bP.lt
      have HBP := Lib.hid bP
      have HU := Lib.hid U
      clear hno hN hmem ha hD bP U hlx
      go_wp2_with (at_mapUpdate; refine wpList_mapUpdate_own _ rfl _ _ _ 76 rfl 67 67 law64 Tryz.underlying76 _ M (x + 1) D rfl hp (by unfold maxLen; omega) _ _ _ rfl rfl hkey _ [] (plainElem_int Tryz.underlying67 (wf_of_u64 (by unfold U64; omega))) ?_; intro w3 hown3 hgrow3)
      have HP3 := Lib.hid hown3
      have HB3 := Lib.hid (HBP.out.grown hgrow3 (by
        intro e
        obtain ⟨_, _, hm3, _⟩ := hp
        injection e with e
        have h7 := HBP.out
        unfold Blk at h7
        rw [← e] at hm3
        rw [h7] at hm3
        cases hm3))
      have HU3 := Lib.hid (HU.out.grown hgrow3 (fun g e => by injection e with e; rw [← e, HMM.out]; exact Nat.le_refl _))
      clear hown3 hgrow3 hp hbc hbl hkey
      go_roundw
      case rel => exact ⟨x + 1, by rw [HNL.out]; omega, by go_num, ⟨_, HP3.out, HN2.out⟩, HB3.out, HU3.out⟩
      case measure => simp [intOf]; omega
    · obtain rfl : x = n := by omega
      have hte : l.take x = l := List.take_of_length_le (by rw [HNL.out]; exact Nat.le_refl _)
      rw [hte] at hD
      have hnm : NmBox wr B M l := ⟨bP, _, _, hp, hD⟩
      have KW := HK1.out.trans U
      have hst2 : Oe m P Q c d l Al cl B M wr.heap.size (wr.heap.size + 1) w.heap.size (w.heap.size + 1) w ((wr.alloc (.cells #[.bool false] 4)).alloc (.cells #[.func (.func 29) #[] #[bx B, bx wr.heap.size]] 78)) := by
        have k : Up wr ((wr.alloc (.cells #[.bool false] 4)).alloc (.cells #[.func (.func 29) #[] #[bx B, bx wr.heap.size]] 78)) := ((Up.refl wr).alloc _).alloc _
        exact ⟨(HM1.out.up U).up k, HSI.out _ (KW.trans k), (HR1.out.up U).up k, Blk.new' _ (by simp) _ _, hnm.up k, by rw [HNL.out]; exact (HSL.out.up U).up k⟩
      have hbl : Blk ((wr.alloc (.cells #[.bool false] 4)).alloc (.cells #[.func (.func 29) #[] #[bx B, bx wr.heap.size]] 78)) wr.heap.size 4 #[.bool false] := (Blk.new wr _ _).alloc _
      have kq : Up w ((wr.alloc (.cells #[.bool false] 4)).alloc (.cells #[.func (.func 29) #[] #[bx B, bx wr.heap.size]] 78)) := (KW.alloc _).alloc _
      have HOE := Lib.hid hst2
      have HBL := Lib.hid hbl
      have HKQ := Lib.hid kq
      have HKQ1 := Lib.hid ((U.alloc (.cells #[.bool false] 4)).alloc (.cells #[.func (.func 29) #[] #[bx B, bx wr.heap.size]] 78))
      have hwB1 : w1.heap.size ≤ wr.heap.size := U.size
      have hfc := hst2.bF.cell
      have hfl := hst2.bF.lt
      have hwB : w.heap.size ≤ wr.heap.size := KW.size
      clear hst2 hbl kq hnm KW hte hD hp bP U HST1
      go_upto_region 11 with fail
      generalize hWQ : ((wr.alloc (.cells #[.bool false] 4)).alloc (.cells #[.func (.func 29) #[] #[bx B, bx wr.heap.size]] 78)) = wq at *
      go_cut [13] from 35 to 41 (fun b13 wx => ∃ Bg GN GS us2, b13 = .pointer (some ⟨Bg, 0, none⟩) ∧ OfS m L l wr.heap.size GN GS Bg wq (List.replicate x (.slice none 0 0)) us2 0 wx)
      case first =>
        have HTU := Lib.hid (fun W (k : Up wq W) => turnedI_any (.slice A L.length cu) L l B M wr.heap.size false w W (HLW.out w (Up.refl w)) (HKQ.out.trans k) hwB HOK.out hs (by rw [HNL.out]; omega) (HOE.out.nm.up k) (HBL.out.up k))
        have hltq : wr.heap.size < wq.heap.size := HBL.out.lt
        have hfc1 := fun o => ((HOE.out.bF.alloc o) : Blk _ _ _ _).cell
        have hfc2 := fun o1 o2 => (((HOE.out.bF.alloc o1).alloc o2) : Blk _ _ _ _).cell
        have hfl1 : wr.heap.size + 1 < wq.heap.size := hfl
        have hltq1 : wr.heap.size < wq.heap.size + 1 := by omega
        have HKB : Hid (∀ W wz, Kp [wr.heap.size] W wz → ∀ g cs, wr.heap.size < g → Blk W g 30 cs → Blk wz g 30 cs) := Lib.hid (fun W wz k g cs hg hb => hb.kp k (by simp; omega))
        have BC := Lib.hid (Blk.new wq 30 gcz).drew
        have BE := Lib.hid ((Blk.new wq 30 gcz).alloc (.cells (nvs (List.replicate x ndN) (List.replicate x (.slice none 0 0))).toArray 71)).drew
        have BD := Lib.hid (Blk.new' (wq.alloc (.cells (nvs (List.replicate x ndN) (List.replicate x (.slice none 0 0))).toArray 71)) (g := wq.heap.size + 1) (by simp) 30 gcz).drew
        have hmkn := fun W => run_makeNodes x (by omega) W
        generalize hR : L.length = R at *
        clear hfl
        go_region_with (go_at_call 33; (refine (HTU.out _ (by (repeat (first | with_reducible exact Up.refl _ | with_reducible refine Up.alloc ?_ _ | with_reducible refine Up.drew ?_)))).mono ?_); rintro e wz ⟨GS, us2, rfl, hge, hTU⟩; have KB := HKB.out _ _ hTU.kp; (first | (with_reducible have MB := KB _ _ hltq BC.out; have MBc := MB.cell; have MBf := MB.frozen; have MBl := MB.lt) | (with_reducible have MB := KB _ _ hltq BE.out; have MBc := MB.cell; have MBf := MB.frozen; have MBl := MB.lt) | (with_reducible have MB := KB _ _ hltq1 BD.out; have MBc := MB.cell; have MBf := MB.frozen; have MBl := MB.lt) | skip); have HTI := Lib.hid hTU; have HKB2 := Lib.hid KB; clear KB hTU)
        all_goals
          go_wp2_with (fail)
          go_meet
          have hT := HTI.out
          first
            | with_reducible exact ⟨_, _, _, _, rfl, ofS_1 HNL.out hR hltq hT hge⟩
            | with_reducible exact ⟨_, _, _, _, rfl, ofS_2 HNL.out hR hltq hT hge⟩
            | with_reducible exact ⟨_, _, _, _, rfl, ofS_3 HNL.out hR hltq hT hge⟩
            | with_reducible exact ⟨_, _, _, _, rfl, ofS_4 HNL.out hR hltq hT hge⟩
            | with_reducible exact ⟨_, _, _, _, rfl, ofS_5 HNL.out hR hltq hT hge⟩
            | with_reducible exact ⟨_, _, _, _, rfl, ofS_6 HNL.out hR hltq hT hge⟩
      case rest =>
        obtain ⟨Bg, GN, GS, us2, rfl, hS⟩ := hcut
        rename World => wc
        have HS0 := Lib.hid hS
        have HND : Hid (∀ a ∈ l, ∀ (b : Bool) W, Kp [wr.heap.size] wq W → Blk W wr.heap.size 4 #[.bool b] → Calls Tryz.prog 30 #[.int .u64 a, bx w.heap.size, bx (wr.heap.size + 1)] W (NdPost l (ndm m a) (okL l (m.ptv a)) m P Q c d B M wr.heap.size (wr.heap.size + 1) w.heap.size b W)) := Lib.hid (fun a ha b W k hb => by
          have hO := HOE.out
          have hB := HBL.out
          exact node_any m P Q c d l a B M wr.heap.size (wr.heap.size + 1) w.heap.size b W (hO.sM.kp k (Tiny.one hB (by simp))) HWF.out (HRE.out a ha) (hO.bM.kp k (by simpa using hO.bM.ne_type hB (by decide))) (hO.bF.kp k (by simp)) (hO.nm.kp k (by simpa using hO.nm.1.ne_type hB (by decide)) (by simpa using hO.nm.ne hB)) hb)
        have HSLK : Hid (∀ W, Kp [wr.heap.size] wq W → Sl .u64 W (.slice Al x cl) l) := Lib.hid (fun W k => HSL.out.up (HKQ1.out.kp k (fun y hy => by rw [List.mem_singleton.1 hy]; exact hwB1)))
        clear hS hfc hfl
        go_wp2_with (fail)
        go_loopw [44] (fun i wv => ∃ (z : Nat) (us : List Value), z ≤ x ∧ i = .int .i64 z ∧ OfS m L l wr.heap.size GN GS Bg wq us us2 z wv) (fun i _ => x - (intOf i).toNat)
        case atStart => exact ⟨0, _, Nat.zero_le _, rfl, HS0.out⟩
        case round =>
          rename World => wv
          obtain ⟨z, us, hz, rfl, hS⟩ := hrel
          by_cases hlt : z < x
          · have hlz : z < l.length := by rw [HNL.out]; exact hlt
            obtain ⟨pe, e1, hce⟩ := (HSLK.out wv hS.kp).at_ hlt
            subst e1
            have hle := lt_of_cell hce
            rw [block_of_add] at hle
            have hmem : l.getD z 0 ∈ l := getD_mem 0 hlz
            have HCL := Lib.hid (HND.out (l.getD z 0) hmem _ wv.drew (hS.kp.up (Up.refl wv).drew) hS.bl.drew)
            obtain ⟨nd, hnd⟩ : ∃ nd, ndm m (l.getD z 0) = nd := ⟨_, rfl⟩
            rw [hnd] at HCL
            have HSS := Lib.hid (fun gi Li wz h1 h2 h3 h4 h5 => hS.step (gi := gi) (Li := Li) (wz := wz) hlz HBL.out.lt h1 h2 h3 h4 h5 hnd)
            rw [hnd] at HSS
            have hGc := hS.bg.cell
            have hGl := hS.bg.lt
            have HGN := Lib.hid hS.gn
            have hltq : wr.heap.size < wq.heap.size := HBL.out.lt
            obtain ⟨q1, q2, q3⟩ := hS.ge
            have HGB := Lib.hid hS.bg
            have hnl : (nvs (nsx m l z) us).length = x * 4 := by rw [nvs_len _ _ (by rw [nsx_len, hS.ul]), nsx_len, HNL.out]
            have hcc : ∀ i, i < 4 → ∃ v, (nvs (nsx m l z) us).toArray[z * 4 + i]? = some v := fun i hi => by
              have : z * 4 + i < (nvs (nsx m l z) us).length := by omega
              exact ⟨_, by rw [List.getElem?_toArray]; exact List.getElem?_eq_getElem this⟩
            have HAP : Hid (∀ wz, Kp [wr.heap.size] wv.drew wz → (∀ i, wz.cell? ⟨Bg, i, none⟩ = (#[.slice (some ⟨GN, 0, none⟩) l.length l.length, .slice (some ⟨GS, 0, none⟩) L.length L.length] : Array Value)[i]?) ∧ Bg < wz.heap.size ∧ (∀ i, wz.frozen? ⟨GN, i, none⟩ = false) ∧ GN < wz.heap.size ∧
                (∃ v0 v1 v2 v3, wz.cell? ⟨GN, z * 4, none⟩ = some v0 ∧ wz.cell? ⟨GN, z * 4 + 1, none⟩ = some v1 ∧ wz.cell? ⟨GN, z * 4 + 2, none⟩ = some v2 ∧ wz.cell? ⟨GN, z * 4 + 3, none⟩ = some v3)) := Lib.hid (fun wz k => by
              have b1 := HGB.out.drew.kp k (by simp; omega)
              have b2 := HGN.out.drew.kp k (by simp; omega)
              obtain ⟨v0, c0⟩ := hcc 0 (by omega)
              obtain ⟨v1, c1⟩ := hcc 1 (by omega)
              obtain ⟨v2, c2⟩ := hcc 2 (by omega)
              obtain ⟨v3, c3⟩ := hcc 3 (by omega)
              exact ⟨b1.cell, b1.lt, b2.frozen, b2.lt, v0, v1, v2, v3, (b2.cell _).trans c0, (b2.cell _).trans c1, (b2.cell _).trans c2, (b2.cell _).trans c3⟩)
            rw [HNL.out] at hGc HAP
            clear hS hcc hnl hmem hnd
            generalize l.getD z 0 = a at *
            go_wp2_with (fail)
            go_region_with (go_at_call 30; (with_reducible refine HCL.out.mono ?_); rintro e wz ⟨gi, Li, rfl, hLi, hgi, hG, nm5, bl5, k5⟩; obtain ⟨a1, a2, a3, a4, v0, v1, v2, v3, a5, a6, a7, a8⟩ := HAP.out wz k5; have HFI := Lib.hid (HSS.out gi Li wz hgi hLi hG bl5 ((Kp.of_up (Up.refl wv).drew).trans k5)); clear hLi hgi hG nm5 bl5 k5)
            all_goals
              go_wp2_with (fail)
              exact ⟨⟨z + 1, _, by omega, by go_num, HFI.out⟩, by simp [intOf]; omega⟩
          · obtain rfl : z = x := by omega
            have HSS := Lib.hid hS
            have hbc := hS.bl.cell
            have hbl := hS.bl.lt
            have hgc := hS.bg.cell
            have hgl := hS.bg.lt
            obtain ⟨q1, q2, q3⟩ := hS.ge
            have hltq : wr.heap.size < wq.heap.size := HBL.out.lt
            have bRv : Blk wv (w.heap.size + 1) 30 gcz := HOE.out.bR.kp hS.kp (by simpa using HOE.out.bR.ne_type HBL.out (by decide))
            have hUv : Up w wv := HKQ.out.kp hS.kp (fun y hy => by rw [List.mem_singleton.1 hy]; exact hwB)
            have hRc := bRv.cell
            have hRf := bRv.frozen
            have hRl := bRv.lt
            have HBR := Lib.hid bRv
            have HUV := Lib.hid hUv
            have HOB2 : Hid (ob = (okL l L.flatten && okN m l z)) := Lib.hid (by rw [HOB.out, HNL.out])
            clear hS bRv hUv HOB
            rw [← HOB2.out] at hbc
            cases ob
            · go_wp2_with (fail)
              have bR5 : Blk ((wv.setCell ⟨w.heap.size + 1, 0, none⟩ (.slice none 0 0)).setCell ⟨w.heap.size + 1, 1, none⟩ (.slice none 0 0)) (w.heap.size + 1) 30 #[.slice none 0 0, .slice none 0 0] := by
                simpa using (HBR.out.set_ 0 (.slice none 0 0)).set_ 1 (.slice none 0 0)
              have kz : Up w ((wv.setCell ⟨w.heap.size + 1, 0, none⟩ (.slice none 0 0)).setCell ⟨w.heap.size + 1, 1, none⟩ (.slice none 0 0)) := (HUV.out.setCell (Nat.le_succ _) _).setCell (Nat.le_succ _) _
              have hfar : ∀ g t cs, g ≠ w.heap.size + 1 → Blk wv g t cs → Blk ((wv.setCell ⟨w.heap.size + 1, 0, none⟩ (.slice none 0 0)).setCell ⟨w.heap.size + 1, 1, none⟩ (.slice none 0 0)) g t cs := fun g t cs hg hb => (hb.far (p := ⟨w.heap.size + 1, 0, none⟩) hg _).far (p := ⟨w.heap.size + 1, 1, none⟩) hg _
              have h5 := bR5.cell
              have h5l := bR5.lt
              exact bodyPost_ret (v := .tuple #[gr0, .int .i64 10]) (by simp [results, Tryz.results11, go_sem, h5, h5l, Nat.ne_of_lt h5l]) rfl ⟨rfl, kz⟩
            · go_wp2_with (fail)
              have bR5 : Blk ((wv.setCell ⟨w.heap.size + 1, 0, none⟩ (.slice (some ⟨GN, 0, none⟩) l.length l.length)).setCell ⟨w.heap.size + 1, 1, none⟩ (.slice (some ⟨GS, 0, none⟩) L.length L.length)) (w.heap.size + 1) 30 #[.slice (some ⟨GN, 0, none⟩) l.length l.length, .slice (some ⟨GS, 0, none⟩) L.length L.length] := by
                simpa using (HBR.out.set_ 0 (.slice (some ⟨GN, 0, none⟩) l.length l.length)).set_ 1 (.slice (some ⟨GS, 0, none⟩) L.length L.length)
              have kz : Up w ((wv.setCell ⟨w.heap.size + 1, 0, none⟩ (.slice (some ⟨GN, 0, none⟩) l.length l.length)).setCell ⟨w.heap.size + 1, 1, none⟩ (.slice (some ⟨GS, 0, none⟩) L.length L.length)) := (HUV.out.setCell (Nat.le_succ _) _).setCell (Nat.le_succ _) _
              have hfar : ∀ g t cs, g ≠ w.heap.size + 1 → Blk wv g t cs → Blk ((wv.setCell ⟨w.heap.size + 1, 0, none⟩ (.slice (some ⟨GN, 0, none⟩) l.length l.length)).setCell ⟨w.heap.size + 1, 1, none⟩ (.slice (some ⟨GS, 0, none⟩) L.length L.length)) g t cs := fun g t cs hg hb => (hb.far (p := ⟨w.heap.size + 1, 0, none⟩) hg _).far (p := ⟨w.heap.size + 1, 1, none⟩) hg _
              have h5 := bR5.cell
              have h5l := bR5.lt
              refine bodyPost_ret (v := .tuple #[.agg #[.slice (some ⟨GN, 0, none⟩) l.length l.length, .slice (some ⟨GS, 0, none⟩) L.length L.length], .int .i64 0]) (by simp [results, Tryz.results11, go_sem, h5, h5l, Nat.ne_of_lt h5l]) rfl ⟨some ⟨GN, 0, none⟩, z, some ⟨GS, 0, none⟩, L.length, by rw [HNL.out], ?_, kz⟩
              have hg5 := HSS.out.gr (w' := (wv.setCell ⟨w.heap.size + 1, 0, none⟩ (.slice (some ⟨GN, 0, none⟩) l.length l.length)).setCell ⟨w.heap.size + 1, 1, none⟩ (.slice (some ⟨GS, 0, none⟩) L.length L.length)) HNL.out.symm (by rw [HNL.out]; unfold maxLen; omega) (by unfold maxLen; omega) (fun g t cs ht hb => hfar g t cs (hb.ne_type HBR.out ht) hb)
              rw [HOG.out]
              rw [HNL.out] at hg5 ⊢
              exact hg5
end Go.Proofs.YtanhhkdoejnpiaaGreat.G
