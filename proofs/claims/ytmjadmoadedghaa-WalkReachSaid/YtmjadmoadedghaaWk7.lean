/- What is reached (package walk's follow, a closure that calls itself in a range over a function; Reach): contracts. -/
import Derived.Test.YtmjadmoadedghaaWk6
namespace Go.Proofs.Ytmjadmoadedghaa
open Go.ChangeShapes Go.WideShapes Go.ChangeAt Go.RowKit Go.Shelf Go.Maps
set_option linter.unusedVariables false
set_option linter.unusedSimpArgs false
attribute [local go_sem] Oper.semAt_some

/-- Where follow's boxes lie. -/
structure Geo (n₀ Bm Bl Bp Bk Bf : Nat) (P Q : Addr) : Prop where
  a : n₀ ≤ Bm
  b : Bm < Bl
  c : Bl < Bp
  d : Bp < Bk
  e : Bk < Bf
  p : P.block < n₀
  q : Q.block < n₀
def fov (Bm Bl Bk Bf : Nat) : Value := .func (.func 34) #[] #[bx Bk, bx Bm, bx Bl, bx Bf]
/-- What follow's boxes hold: what has been told. -/
structure St (m : Me) (P Q : Addr) (c d n₀ Bm Bl Bp Bk Bf : Nat) (w : World) (out : List Int) : Prop where
  hk : Boxed w Bk 70 (.map (some Bp))
  hm : Box w Bm m P Q c d
  hl : ∃ v, Boxed w Bl 22 v ∧ Lo w n₀ v out
  hf : Boxed w Bf 71 (fov Bm Bl Bk Bf)
  hp : w.ownsMap Try.prog 31 unitElem Bp out.length (setD out)
  re : ∀ x ∈ out, m.real x = true
  nd : out.Nodup
  le : out.length + m.lft out ≤ 8192
section
variable {m : Me} {P Q : Addr} {c d n₀ Bm Bl Bp Bk Bf : Nat} {w w' : World} {out : List Int}
theorem St.obj (h : St m P Q c d n₀ Bm Bl Bp Bk Bf w out) : ∃ o, w.heap[Bp]? = some o ∧ o.isCells = false := by
  obtain ⟨es, clock, hb, _⟩ := h.hp
  exact ⟨_, hb, rfl⟩
theorem St.stl (h : St m P Q c d n₀ Bm Bl Bp Bk Bf w out) : StL n₀ Bp Bl w := by
  obtain ⟨v, h1, h2⟩ := h.hl
  exact ⟨⟨v, out, h1, h2⟩, h.obj⟩
theorem St.up (h : St m P Q c d n₀ Bm Bl Bp Bk Bf w out) (k : Up w w') : St m P Q c d n₀ Bm Bl Bp Bk Bf w' out := by
  obtain ⟨v, h1, h2⟩ := h.hl
  exact ⟨Blk.up h.hk k, h.hm.up k, ⟨v, Blk.up h1 k, h2.up k⟩, Blk.up h.hf k, h.hp.kept k.gb (by simp), h.re, h.nd, h.le⟩
theorem St.keep (G : Geo n₀ Bm Bl Bp Bk Bf P Q) (h : St m P Q c d n₀ Bm Bl Bp Bk Bf w out) {row : Option Nat} (hg : w.grownBy w' row) (hr : ∀ r, row = some r → Bf < r ∧ ∃ o : Obj, w.heap[r]? = some o ∧ o.isCells = false) : St m P Q c d n₀ Bm Bl Bp Bk Bf w' out := by
  obtain ⟨v, h1, h2⟩ := h.hl
  have hn : n₀ ≤ w.heap.size := by have := G.a; have := h.hm.1.lt; omega
  have hne : ∀ b, b ≤ Bf → some b ≠ row := fun b hb e => by have := (hr b e.symm).1; omega
  have g1 := G.a; have g2 := G.b; have g3 := G.c; have g4 := G.d; have g5 := G.e
  refine ⟨h.hk.kept hg (hne _ (by omega)), ⟨Blk.grown h.hm.1 hg (hne _ (by omega)), h.hm.2.below ((Below.refl n₀ w).grown hg hn (fun k e => by have := (hr k e).1; omega)) G.p G.q⟩, ⟨v, h1.kept hg (hne _ (by omega)), World.ownsRow.kept h2 hg ?_⟩, h.hf.kept hg (hne _ (by omega)), h.hp.kept hg (hne _ (by omega)), h.re, h.nd, h.le⟩
  cases e : v.ownBlock with
  | none => exact .inl rfl
  | some g =>
    refine .inr (fun q => ?_)
    obtain ⟨_, o, ho, hc⟩ := hr g q.symm
    rcases h2.2 with ⟨rfl, _⟩ | ⟨g', cap, cur, rfl, _, hg', _⟩
    · simp [Value.ownBlock] at e
    · obtain rfl : g' = g := by simpa [Value.ownBlock] using e
      rw [hg'] at ho
      cases ho
      cases hc
theorem St.n0 (G : Geo n₀ Bm Bl Bp Bk Bf P Q) (h : St m P Q c d n₀ Bm Bl Bp Bk Bf w out) : n₀ ≤ w.heap.size ∧ Bf < w.heap.size := by
  have := G.a; have := h.hm.1.lt; have := h.hf.lt
  omega
end
def FoPost (m : Me) (P Q : Addr) (c d n₀ Bm Bl Bp Bk Bf : Nat) (w : World) (out : List Int) (e : Ending) (w' : World) : Prop :=
  (∃ v, e = .returned v) ∧ St m P Q c d n₀ Bm Bl Bp Bk Bf w' out ∧ Kc n₀ Bp Bl w w' ∧ KeepsFrom (Bp + 1) w w'

set_option maxHeartbeats 1000000 in
theorem follow_in (m : Me) (P Q : Addr) (c d n₀ Bm Bl Bp Bk Bf : Nat) (G : Geo n₀ Bm Bl Bp Bk Bf P Q) (a : Int) (out : List Int) (w : World) (ha : U64 a) (hS : St m P Q c d n₀ Bm Bl Bp Bk Bf w out) (hin : a ∈ out) :
    Calls Try.prog 34 #[.int .u64 a, bx Bk, bx Bm, bx Bl, bx Bf] w (FoPost m P Q c d n₀ Bm Bl Bp Bk Bf w out) := by
  have hhas : Maps.has (setD out) (.int .u64 a) = true := by rw [setD_has]; exact decide_eq_true hin
  have hn := (hS.n0 G).1
  have HS := Lib.hid hS
  have hp := hS.hp
  have hkc := hS.hk.cell
  have hkey := key_of ha
  clear hS hin
  go_enter Try.func34, Try.ntmps34
  go_wp2_with (at_lookup; refine wpList_lookup_own_unit _ rfl _ _ 70 rfl 31 72 law64 Try.underlying70 (zeroS _) Bp out.length (setD out) rfl hp _ _ rfl hkey ?_; rw [hhas])
  go_end0
  exact ⟨⟨_, rfl⟩, HS.out.up ((Up.refl w).alloc _), Kc.up ((Up.refl w).alloc _) hn, ((Up.refl w).alloc _).kf⟩

set_option maxHeartbeats 1000000 in
theorem follow_far (m : Me) (P Q : Addr) (c d n₀ Bm Bl Bp Bk Bf : Nat) (G : Geo n₀ Bm Bl Bp Bk Bf P Q) (hwf : m.wf) (a : Int) (out : List Int) (w : World) (ha : U64 a) (hS : St m P Q c d n₀ Bm Bl Bp Bk Bf w out) (hin : a ∉ out) (hr : m.real a = false) :
    Calls Try.prog 34 #[.int .u64 a, bx Bk, bx Bm, bx Bl, bx Bf] w (FoPost m P Q c d n₀ Bm Bl Bp Bk Bf w out) := by
  have hhas : Maps.has (setD out) (.int .u64 a) = false := by rw [setD_has]; exact decide_eq_false hin
  have hfd := Lib.hid (fun (W : World) (hs : Sits W m P Q c d) => by have h := found_any m a P Q c d W hs ha hwf; rw [hr] at h; exact h)
  have hn := (hS.n0 G).1
  have HS := Lib.hid hS
  have hp := hS.hp
  have hkc := hS.hk.cell
  have hmc := hS.hm.1.cell
  have hml := hS.hm.1.lt
  have hkey := key_of ha
  clear hS hin hr
  go_enter Try.func34, Try.ntmps34
  go_wp2_with (at_lookup; refine wpList_lookup_own_unit _ rfl _ _ 70 rfl 31 72 law64 Try.underlying70 (zeroS _) Bp out.length (setD out) rfl hp _ _ rfl hkey ?_; rw [hhas])
  refine (hfd.out _ (HS.out.hm.2.up ((Up.refl w).alloc _))).mono ?_
  rintro e w1 ⟨rfl, h1⟩
  have U1 : Up w w1 := ((Up.refl w).alloc _).trans h1
  go_wp2
  go_end0
  exact ⟨⟨_, rfl⟩, HS.out.up U1, Kc.up U1 hn, U1.kf⟩

theorem kf_mono {B B' : Nat} {w w' : World} (h : KeepsFrom B w w') (k : B ≤ B') : KeepsFrom B' w w' := ⟨h.size, fun i o hi => h.same i o (Nat.le_trans k hi)⟩
theorem nodup_snoc {l : List Int} {a : Int} (h : l.Nodup) (k : a ∉ l) : (l ++ [a]).Nodup := by
  rw [List.nodup_append]
  exact ⟨h, by simp, fun x hx y hy => by rw [List.mem_singleton.1 hy]; exact fun e => k (e ▸ hx)⟩
theorem getD_u64 {l : List Int} (h : ∀ x ∈ l, U64 x) (i : Nat) : U64 (l.getD i 0) := by
  unfold List.getD
  cases e : l[i]? with
  | none => exact u64_0
  | some x => exact h x (List.mem_of_getElem? e)
theorem Kc.grow {n₀ Bp Bl Bf : Nat} {A B : World} {row : Option Nat} (hp : Bp ≤ Bf) (hl : Bl ≤ Bf) (hn0 : n₀ ≤ Bf) (hn : n₀ ≤ A.heap.size) (hg : A.grownBy B row) (hr : ∀ r, row = some r → Bf < r ∧ ∃ o : Obj, A.heap[r]? = some o ∧ o.isCells = false) : Kc n₀ Bp Bl A B := by
  have hne : ∀ b, b ≤ Bf → some b ≠ row := fun b hb e => by have := (hr b e.symm).1; omega
  have hcl : ∀ {k o}, A.heap[k]? = some o → o.isCells = true → some k ≠ row := fun hk hc e => by
    obtain ⟨_, o, ho, hx⟩ := hr _ e.symm
    rw [hk] at ho
    cases ho
    rw [hc] at hx
    cases hx
  refine ⟨(Below.refl n₀ A).grown hg hn (fun k e => by have := (hr k e).1; omega), fun ⟨⟨v, xs, hv, hlo⟩, o, ho, hc⟩ => ⟨⟨v, xs, hv.kept hg (hne _ hl), World.ownsRow.kept hlo hg ?_⟩, o, (hg.block _ (lt_of_get ho) (hne _ hp)).trans ho, hc⟩, fun ⟨⟨v, xs, hv, hlo⟩, _⟩ k o hk ho hw => ⟨(hg.block k (lt_of_get hk) (hcl hk ho)).trans hk, fun q => hw ?_⟩⟩
  · cases e : v.ownBlock with
    | none => exact .inl rfl
    | some g =>
      refine .inr (fun q => ?_)
      rcases hlo.2 with ⟨rfl, _⟩ | ⟨g', cap, cur, rfl, _, hg', _⟩
      · simp [Value.ownBlock] at e
      · obtain rfl : g' = g := by simpa [Value.ownBlock] using e
        exact hcl hg' rfl q
  · rcases q with q | q | ⟨u, hu, q⟩
    · exact .inl q
    · exact .inr (.inl q)
    · have : v = u := boxed_one (hv.kept hg (hne _ hl)) hu
      subst this
      exact .inr (.inr ⟨v, hv, q⟩)

theorem own_ne_obj {w : World} {n₀ Bp : Nat} {v : Value} {xs : List Int} (h : Lo w n₀ v xs) (ho : ∃ o, w.heap[Bp]? = some o ∧ o.isCells = false) : v.ownBlock = none ∨ v.ownBlock ≠ some Bp := by
  refine .inr (fun e => ?_)
  obtain ⟨o, ho, hc⟩ := ho
  rcases h.2 with ⟨rfl, _⟩ | ⟨g, cap, cur, rfl, _, hg, _⟩
  · simp [Value.ownBlock] at e
  · obtain rfl : g = Bp := by simpa [Value.ownBlock] using e
    rw [hg] at ho
    cases ho
    cases hc
set_option maxRecDepth 100000 in
set_option maxHeartbeats 8000000 in
theorem follow_on (m : Me) (P Q : Addr) (c d n₀ Bm Bl Bp Bk Bf : Nat) (G : Geo n₀ Bm Bl Bp Bk Bf P Q) (hwf : m.wf) (f : Nat)
    (ih : ∀ (a : Int) (out : List Int) (w : World), U64 a → St m P Q c d n₀ Bm Bl Bp Bk Bf w out → m.lft out < f → Calls Try.prog 34 #[.int .u64 a, bx Bk, bx Bm, bx Bl, bx Bf] w (FoPost m P Q c d n₀ Bm Bl Bp Bk Bf w (m.vis f a out)))
    (a : Int) (out : List Int) (w : World) (ha : U64 a) (hS : St m P Q c d n₀ Bm Bl Bp Bk Bf w out) (hin : a ∉ out) (hr : m.real a = true) (hlt : m.lft out < f + 1) :
    Calls Try.prog 34 #[.int .u64 a, bx Bk, bx Bm, bx Bl, bx Bf] w (FoPost m P Q c d n₀ Bm Bl Bp Bk Bf w ((m.ptv a).foldl (fun o p => m.vis f p o) (out ++ [a]))) := by
  have hhas : Maps.has (setD out) (.int .u64 a) = false := by rw [setD_has]; exact decide_eq_false hin
  have hfd := Lib.hid (fun (W : World) (hs : Sits W m P Q c d) => by have h := found_any m a P Q c d W hs ha hwf; rw [hr] at h; exact h)
  have hlf := lft_snoc hr hin
  have hle := hS.le
  have hn := (hS.n0 G).1
  have g1 := G.a; have g2 := G.b; have g3 := G.c; have g4 := G.d; have g5 := G.e
  have HS := Lib.hid hS
  have HR := Lib.hid hr
  have HI := Lib.hid hin
  have HA := Lib.hid ha
  have HX := Lib.hid ih
  have hp := hS.hp
  have hkc := hS.hk.cell
  have hmc := hS.hm.1.cell
  have hml := hS.hm.1.lt
  have hkey := key_of ha
  obtain ⟨i0, hi, hz0, hz1, hz2⟩ := info_parts info_u64
  clear hS hin hr ha ih
  refine (callsIn_wide (n := 5)).1 ?_
  refine callsIn_of_wp_marks Try.func34 rfl trivial ?_ rfl
  simp only [Try.ntmps34, List.size_toArray, List.length_cons, List.length_nil, Nat.reduceAdd, Nat.reduceSub, Array.replicate_succ, Array.replicate_zero, List.push_toArray, List.append_toArray, List.nil_append, List.cons_append]
  gi_wp2_with (gi_at_lookup; refine wpListIn_lookup_own_unit _ rfl _ _ 70 rfl 31 72 law64 Try.underlying70 (zeroS _) Bp out.length (setD out) rfl hp _ _ rfl hkey ?_; rw [hhas])
  refine ⟨trivial, ?_⟩
  refine (callsIn_wide.2 (hfd.out _ (HS.out.hm.2.up ((Up.refl w).alloc _)))).mono ?_
  rintro e w1 ⟨rfl, h1⟩
  have U1 : Up w w1 := ((Up.refl w).alloc _).trans h1
  have S1 := HS.out.up U1
  obtain ⟨v, hv1, ho1⟩ := S1.hl
  have hn1 : n₀ ≤ w1.heap.size := (S1.n0 G).1
  have K1 := Kc.up (Bp := Bp) (Bl := Bl) U1 hn
  have F1 := U1.kf (B := Bp + 1)
  have hk1 := S1.hk
  have hm1 := S1.hm
  have hf1 := S1.hf
  have hp1 := S1.hp
  have O1 := Lib.hid S1.obj
  have R1 := Lib.hid S1.re
  have N1 := Lib.hid S1.nd
  have hk1c := hk1.cell
  clear h1 U1 hp hkc hmc hml HS hfd S1
  gi_wp2_with (first
    | (gi_at_mapUpdate; refine wpListIn_mapUpdate_own _ rfl _ _ _ 70 rfl 31 72 law64 Try.underlying70 unitElem Bp out.length (setD out) rfl hp1 (by unfold maxLen; omega) _ _ (.int .u64 a) rfl rfl hkey (.agg []) [] unitElem_mk ?_; intro w2 hown2 hgrow2; have hv2 := hv1.kept hgrow2 (fun e => (by cases e; omega)); have hl2c := hv2.cell; have ho2 : Lo w2 n₀ v out := World.ownsRow.kept ho1 hgrow2 (own_ne_obj ho1 O1.out))
    | (gi_at_builtin; refine wpListIn_append_own_at _ rfl _ _ 22 rfl n₀ 31 i0 (.int .u64 0) 1 8 Try.underlying22 hi hz0 hz1 hz2 rfl (by decide) _ _ _ rfl (World.ownsRow.alloc ho2 _) ⟨w2.heap.size, 0, none⟩ 1 1 [.int .u64 a] rfl rfl (cell_one_new _ _ _) (by simp [Value.oneCell']) (by unfold maxLen; omega) (by omega) (by have := hgrow2.size; simp; omega) ?_; intro v' w3 hown3 hgrow3 _ hloc3; obtain ⟨g', cap', rfl⟩ := ownsRow_succ hown3; obtain ⟨hv3, hv4, hr4, hk4, hb4⟩ := hv2.appended (by decide) ho2 (Nat.le_trans hn1 hgrow2.size) (by omega) hown3 hgrow3; have hc3 := hv3.cell; have hf3 := hv3.frozen; have hm4 := blk_app hv2 hv3 ho2 hgrow3 (Blk.grown hm1.1 hgrow2 (fun e => (by cases e; omega))) (by decide) (by decide) (v' := .slice (some ⟨g', 0, none⟩) (out.length + 1) cap'); have hm4c := hm4.cell; have hm4l := hm4.lt)
    | (refine ⟨trivial, ?_⟩; gi_at_call 36; refine (callsIn_wide.2 (pointers_any m.n P Q c d a _)).mono ?_; rintro e w' ⟨rfl, rfl⟩))
  have hg3 : (w2.alloc (.cells #[.int .u64 a] 31)).grownBy w3 v.ownBlock := hgrow3
  have hloc : (Value.slice (some ⟨g', 0, none⟩) (out.length + 1) cap').ownBlock = v.ownBlock ∨ (Value.slice (some ⟨g', 0, none⟩) (out.length + 1) cap').ownBlock = some (w2.alloc (.cells #[.int .u64 a] 31)).heap.size := hloc3
  clear hgrow3 hloc3 hc3 hf3 hm4c hm4l hown3 hk1c hl2c hkey
  have hlen : (out ++ [a]).length = out.length + 1 := by simp
  have ho4 : Lo (w3.setCell ⟨Bl, 0, none⟩ (Value.slice (some ⟨g', 0, none⟩) (out.length + 1) cap')) n₀ (Value.slice (some ⟨g', 0, none⟩) (out.length + 1) cap') (out ++ [a]) := by
    unfold Lo
    rw [hlen, show wds (out ++ [a]) = wds out ++ [Value.int .u64 a] from by simp [wds, wd]]
    exact hr4
  have kc4 := Kc.app (Bp := Bp) hv2 ho2 hg3 hv4 ho4 hk4 hb4 hloc
  have km2 := Kc.map (Bl := Bl) hgrow2 hn1 (by omega) (by omega) (by obtain ⟨es, clock, hb, _⟩ := hown2; exact ⟨_, hb, rfl⟩)
  have hk4b := blk_app hv2 hv3 ho2 hg3 (Blk.grown (show Blk w1 Bk _ _ from hk1) hgrow2 (fun e => by cases e; omega)) (by decide) (by decide) (v' := Value.slice (some ⟨g', 0, none⟩) (out.length + 1) cap')
  have hf4b := blk_app hv2 hv3 ho2 hg3 (Blk.grown (show Blk w1 Bf _ _ from hf1) hgrow2 (fun e => by cases e; omega)) (by decide) (by decide) (v' := Value.slice (some ⟨g', 0, none⟩) (out.length + 1) cap')
  have hp4 : (w3.setCell ⟨Bl, 0, none⟩ (Value.slice (some ⟨g', 0, none⟩) (out.length + 1) cap')).ownsMap Try.prog 31 unitElem Bp (out ++ [a]).length (setD (out ++ [a])) := by
    rw [hlen, setD_snoc]
    refine World.ownsMap.setCell ((hown2.alloc (.cells #[.int .u64 a] 31)).kept hg3 ?_) (by simp only []; omega) _
    obtain ⟨es, clock, hb, _⟩ := hown2
    rcases own_ne_obj ho2 ⟨_, hb, rfl⟩ with e | e
    · rw [e]; simp
    · exact fun q => e q.symm
  have S4 : St m P Q c d n₀ Bm Bl Bp Bk Bf (w3.setCell ⟨Bl, 0, none⟩ (Value.slice (some ⟨g', 0, none⟩) (out.length + 1) cap')) (out ++ [a]) := by
    refine ⟨hk4b, ⟨hm4, hm1.2.below (((Below.refl n₀ w1).grown hgrow2 hn1 (fun k e => by cases e; omega)).trans hb4) G.p G.q⟩, ⟨_, hv4, ho4⟩, hf4b, hp4, ?_, nodup_snoc N1.out HI.out, by rw [hlen]; omega⟩
    intro x hx
    rcases List.mem_append.1 hx with q | q
    · exact R1.out x q
    · rw [List.mem_singleton.1 q]; exact HR.out
  have K4 : Kc n₀ Bp Bl w (w3.setCell ⟨Bl, 0, none⟩ (Value.slice (some ⟨g', 0, none⟩) (out.length + 1) cap')) := (K1.t km2).t kc4
  have F4 : KeepsFrom (Bp + 1) w (w3.setCell ⟨Bl, 0, none⟩ (Value.slice (some ⟨g', 0, none⟩) (out.length + 1) cap')) := (F1.trans (KeepsFrom.of_grownBy hgrow2 (fun j e => by cases e; omega))).trans (hk4.from _)
  have hsz : w3.heap.size = (w3.setCell ⟨Bl, 0, none⟩ (Value.slice (some ⟨g', 0, none⟩) (out.length + 1) cap')).heap.size := by simp
  clear hv1 ho1 K1 F1 hk1 hm1 hf1 hp1 O1 R1 N1 hown2 hgrow2 hv2 ho2 hv3 hv4 hr4 hk4 hb4 hm4 hg3 hloc ho4 kc4 km2 hk4b hf4b hp4 hlen
  obtain ⟨W4, hW4⟩ : ∃ W4, (w3.setCell ⟨Bl, 0, none⟩ (Value.slice (some ⟨g', 0, none⟩) (out.length + 1) cap')) = W4 := ⟨_, rfl⟩
  rw [hW4] at S4 K4 F4 hsz ⊢
  clear hW4
  obtain ⟨hN4, hB4⟩ := S4.n0 G
  obtain ⟨W5, hW5⟩ : ∃ W5, (W4.alloc (.cells (mcs m.n P Q c d) 25)).alloc (.cells #[.int .u64 a] 31) = W5 := ⟨_, rfl⟩
  have U5 : Up W4 W5 := by rw [← hW5]; exact ((Up.refl W4).alloc _).alloc _
  have hz5 : W5.heap.size = w3.heap.size + 1 + 1 := by rw [← hW5]; simp [hsz]
  have bM : Blk W5 w3.heap.size 25 (mcs m.n P Q c d) := by rw [← hW5]; exact (Blk.new' _ (by simp [hsz]) _ _).alloc _
  have bA : Blk W5 (w3.heap.size + 1) 31 #[.int .u64 a] := by rw [← hW5]; exact Blk.new' _ (by simp [hsz]) _ _
  have S5 := S4.up U5
  have K5 := K4.t (Kc.up U5 hN4)
  have F5 := F4.trans (U5.kf (B := Bp + 1))
  have W5n : ¬ Wr Bp Bl W5 (w3.heap.size + 1) := by
    rintro (e | e | ⟨u, hu, e⟩)
    · omega
    · omega
    · obtain ⟨v4, h41, h42⟩ := S4.hl
      have : v4 = u := boxed_one (show Boxed W5 Bl _ v4 from Blk.up h41 U5) hu
      subst this
      have := (World.ownsRow.lt h42 _ e).2
      omega
  rw [hW5]
  have hq1 : n₀ ≤ w3.heap.size := by omega
  have hq2 : Bf < W5.heap.size := by omega
  have hq3 : w3.heap.size < W5.heap.size := by omega
  clear hW5 hsz hz5
  have hOwn : OwnFrom W5.heap.size (fun (pre : List Nat) W => (St m P Q c d n₀ Bm Bl Bp Bk Bf W ((pre.map fun x => (m.ptv a).getD x 0).foldl (fun o p => m.vis f p o) (out ++ [a])) ∧ Kc n₀ Bp Bl w W) ∧ KeepsFrom (Bp + 1) w W) := by
    refine OwnFrom.and ?_ (ownFrom_keepsFrom (by have := K5.b.size; omega))
    intro pre W W' row hs hg hr
    have hr' : ∀ r, row = some r → Bf < r ∧ ∃ o : Obj, W.heap[r]? = some o ∧ o.isCells = false := fun r e => ⟨by have := (hr r e).1; omega, (hr r e).2⟩
    exact ⟨hs.1.keep G hg hr', hs.2.t (Kc.grow (Bf := Bf) (by omega) (by omega) (by omega) (hs.1.n0 G).1 hg hr')⟩
  refine wpIn_rangeFunc_ownG rfl (by decide) (gf := 56) (lb := #[bx w3.heap.size, bx (w3.heap.size + 1)]) rfl trivial (enters_of Try.func56 (by kernel_rfl) rfl)
    (pointers_stops 4 (by decide) m a P Q c d w3.heap.size (w3.heap.size + 1) W5 (Kc n₀ Bp Bl) (fun A => (Box A w3.heap.size m P Q c d ∧ Blk A (w3.heap.size + 1) 31 #[.int .u64 a]) ∧ StL n₀ Bp Bl A ∧ ¬ Wr Bp Bl A (w3.heap.size + 1)) hwf HA.out
      (fun A B h k => by
        have hA : n₀ ≤ A.heap.size := by have := h.1.1.1.lt; omega
        have kk := Kc.up (Bp := Bp) (Bl := Bl) k hA
        exact ⟨⟨h.1.1.up k, h.1.2.up k⟩, kk.s h.2.1, (kk.k h.2.1 _ _ h.1.2 rfl h.2.2).2⟩)
      (fun A B h k => ⟨⟨⟨k.blk h.2.1 h.1.1.1 (notWr h.2.1 h.1.1.1 (by decide) (by decide)), h.1.1.2.below k.b G.p G.q⟩, k.blk h.2.1 h.1.2 h.2.2⟩, k.s h.2.1, (k.k h.2.1 _ _ h.1.2 rfl h.2.2).2⟩)
      (fun A h => h.1)
      (fun A B g cs h k hb => k.blk h.2.1 hb (notWr h.2.1 hb (by decide) (by decide)))
      ⟨⟨⟨bM, S5.hm.2⟩, bA⟩, S5.stl, W5n⟩)
    Kc.t (Kc.b' (by omega) (by omega) (by omega)) (Below.refl _ _) (fun _ => rfl)
    (fun (pre : List Nat) W => (St m P Q c d n₀ Bm Bl Bp Bk Bf W ((pre.map fun x => (m.ptv a).getD x 0).foldl (fun o p => m.vis f p o) (out ++ [a])) ∧ Kc n₀ Bp Bl w W) ∧ KeepsFrom (Bp + 1) w W)
    (fun _ _ _ => False) hOwn (fun _ _ _ _ _ hs _ _ => hs)
    ⟨⟨S5, K5⟩, F5⟩
    (fun x => { tmps := #[.int .u64 a, bx Bk, bx Bm, bx Bl, bx Bf, undef, bx w.heap.size, .bool false, .int .u64 ((m.ptv a).getD x 0), .tuple #[.agg #[], .bool false], .map (some Bp), .int .u64 a, .tuple #[.agg #[], .bool false], .agg #[], .bool false, .bool false, .bool false, Value.agg #[.int .i64 m.n, .slice (some P) m.n c, .slice (some Q) m.n d], .int .u64 a, .bool true, .bool false, .bool false, .map (some Bp), .int .u64 a, .agg #[], v, .int .u64 a, .slice (some ⟨w2.heap.size, 0, none⟩) 1 1, Value.slice (some ⟨g', 0, none⟩) (out.length + 1) cap', Value.agg #[.int .i64 m.n, .slice (some P) m.n c, .slice (some Q) m.n d], .int .u64 a, .func (.func 56) #[] #[bx w3.heap.size, bx (w3.heap.size + 1)], .int .u64 ((m.ptv a).getD x 0), undef, undef, undef], defers := [] })
    ?assign ?body ?done ?stop
  case assign =>
    intro l x W K hK
    dsimp only at hK ⊢
    generalize (m.ptv a).getD x 0 = b at hK ⊢
    gi_wp2
    exact hK
  case body =>
    rintro l pre x W ⟨⟨hSt, hKc⟩, hKF⟩ _
    have hfc := hSt.hf.cell
    unfold fov at hfc
    have hux : U64 ((m.ptv a).getD x 0) := getD_u64 (ptv_u64 hwf a) x
    have hlf2 : m.lft ((pre.map fun x => (m.ptv a).getD x 0).foldl (fun o p => m.vis f p o) (out ++ [a])) < f :=
      Nat.lt_of_le_of_lt (lft_mono (fun y hy => (fold_pre (fun o p => vis_pre m f p o) _ _).subset hy)) (by omega)
    have hcall := Lib.hid (HX.out _ _ W hux hSt hlf2)
    have E : Hid (((pre ++ [x]).map fun x => (m.ptv a).getD x 0).foldl (fun o p => m.vis f p o) (out ++ [a]) = m.vis f ((m.ptv a).getD x 0) ((pre.map fun x => (m.ptv a).getD x 0).foldl (fun o p => m.vis f p o) (out ++ [a]))) := Lib.hid (by rw [List.map_append, List.foldl_append]; rfl)
    generalize (m.ptv a).getD x 0 = b at hcall E
    clear hux hlf2 hSt
    gi_wp2_with (fail)
    refine ⟨trivial, ?_⟩
    refine (CallsIn.inRound l (callsIn_wide.2 hcall.out)).mono ?_
    rintro e W2 ⟨⟨r, rfl⟩, hS2, hK2, hF2⟩
    gi_wp2
    exact ⟨kf_mono hF2 (by omega), hK2, ⟨by rw [E.out]; exact hS2, hKc.t hK2⟩, hKF.trans hF2⟩
  case done =>
    rintro D zs W hD rfl hI hK
    have hI2 := hOwn.putObj (.deferred none) hI hD hK rfl
    obtain ⟨⟨hSt, hKc⟩, hKF⟩ := hI2
    rw [range_get] at hSt
    gi_wp2
    refine ⟨by simp, .inl ⟨_, _, rfl, run_takeDeferred hK, ?_⟩⟩
    exact ⟨_, results_none rfl _ _ _, ⟨_, rfl⟩, hSt, hKc, hKF⟩
  case stop =>
    rintro D cd pre W _ _ h _
    exact h.elim

theorem follow_any (m : Me) (P Q : Addr) (c d n₀ Bm Bl Bp Bk Bf : Nat) (G : Geo n₀ Bm Bl Bp Bk Bf P Q) (hwf : m.wf) : ∀ (f : Nat) (a : Int) (out : List Int) (w : World), U64 a → St m P Q c d n₀ Bm Bl Bp Bk Bf w out → m.lft out < f →
    Calls Try.prog 34 #[.int .u64 a, bx Bk, bx Bm, bx Bl, bx Bf] w (FoPost m P Q c d n₀ Bm Bl Bp Bk Bf w (m.vis f a out)) := by
  intro f
  induction f with
  | zero => intro a out w _ _ h; omega
  | succ f ih =>
    intro a out w ha hS hlt
    by_cases hin : a ∈ out
    · rw [vis_no (.inr hin)]
      exact follow_in m P Q c d n₀ Bm Bl Bp Bk Bf G a out w ha hS hin
    cases hr : m.real a
    · rw [vis_no (.inl hr)]
      exact follow_far m P Q c d n₀ Bm Bl Bp Bk Bf G hwf a out w ha hS hin hr
    · rw [vis_yes hr hin]
      exact follow_on m P Q c d n₀ Bm Bl Bp Bk Bf G hwf f ih a out w ha hS hin hr hlt
end Go.Proofs.Ytmjadmoadedghaa
