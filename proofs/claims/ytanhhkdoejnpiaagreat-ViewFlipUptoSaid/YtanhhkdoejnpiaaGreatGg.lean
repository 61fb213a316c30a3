/- The document's Canon of graphs: contracts. -/
import Derived.Test.YtanhhkdoejnpiaaGreatGd
import Derived.Test.YtanhhkdoejnpiaaGreatGf
/-! Of stage 15 -/
namespace Go.Proofs.YtanhhkdoejnpiaaGreat.G
open Go.Joins Go.ChangeShapes Go.WideShapes Go.ChangeAt Go.RowKit Go.Deep Go.Shelf Go.Maps
set_option linter.unusedVariables false
set_option linter.unusedSimpArgs false

theorem pl_first : ∀ (xs : List Int) (x : Nat) (n : Int), x < xs.length → xs.getD x 0 = n → (∀ i, i < x → xs.getD i 0 ≠ n) → pl xs n = (x : Int) + 1
  | [], x, n, h, _, _ => by simp at h
  | a :: r, 0, n, _, e, _ => by
    have e : a = n := e
    subst e
    simp [pl]
  | a :: r, x + 1, n, hx, e, h => by
    have ha : a ≠ n := h 0 (by omega)
    have e' : r.getD x 0 = n := by simpa [List.getD] using e
    have hx' : x < r.length := by simpa using hx
    have ih := pl_first r x n hx' e' (fun i hi => by simpa [List.getD] using h (i + 1) (by omega))
    have hm : n ∈ r := by rw [← e']; exact getD_mem 0 hx'
    unfold pl at ih ⊢
    rw [if_pos hm] at ih
    have e2 : (a == n) = false := by simpa using ha
    rw [if_pos (by simp [hm]), List.idxOf_cons, e2, cond_false]
    omega
theorem pl_none {xs : List Int} {n : Int} (h : ∀ i, i < xs.length → xs.getD i 0 ≠ n) : pl xs n = 0 := by
  unfold pl
  rw [if_neg]
  intro k
  obtain ⟨i, hi, e⟩ := List.getElem_of_mem k
  exact h i hi (by simp [List.getD, List.getElem?_eq_getElem hi, e])
def PlR (w : World) (xs : List Int) (n : Int) (i : Value) (wr : World) : Prop := ∃ x : Nat, x ≤ xs.length ∧ i = .int .i64 x ∧ (∀ j, j < x → xs.getD j 0 ≠ n) ∧ Up w wr
set_option maxRecDepth 100000 in
set_option maxHeartbeats 2000000 in
theorem rplace_any (u : Value) (xs : List Int) (n : Int) (w : World) (hx : Sl .i64 w u xs) : Calls Tryz.prog 57 #[u, .int .i64 n] w fun e w' => e = .returned (.int .i64 (pl xs n - 1)) ∧ Up w w' := by
  have HX := Lib.hid hx
  have m1 := hx.max
  unfold maxLen at m1
  obtain ⟨A, c, rfl⟩ := hx.slice
  generalize hB : pl xs n - 1 = bo
  have HB := Lib.hid hB
  generalize hl : xs.length = l at *
  have HL := Lib.hid hl
  clear hx hB hl
  go_enter Tryz.func57, Tryz.ntmps57
  go_wp2
  go_loopw [5] (fun i wr => PlR w xs n i wr) (fun i _ => l - (intOf i).toNat)
  case atStart => exact ⟨0, Nat.zero_le _, rfl, fun j hj => absurd hj (by omega), Up.refl _⟩
  case round =>
    obtain ⟨x, hx, rfl, ht, U⟩ := hrel
    rw [HL.out] at hx
    have HT := Lib.hid ht
    clear ht
    by_cases hlt : x < l
    · obtain ⟨p, rfl, hcp⟩ := (HX.out.up U).at_ hlt
      by_cases e : xs.getD x 0 = n
      · have HV : Hid (pl xs n = (x : Int) + 1) := Lib.hid (pl_first xs x n (by rw [HL.out]; exact hlt) e HT.out)
        have he : (xs.getD x 0 == n) = true := by simpa using e
        generalize xs.getD x 0 = v at *
        clear e
        go_wp2
        go_ret
        exact ⟨show Ending.returned (.int .i64 (x : Int)) = .returned (.int .i64 bo) from by rw [← HB.out, HV.out]; congr 2; omega, U⟩
      · have HV : Hid (∀ j, j < x + 1 → xs.getD j 0 ≠ n) := Lib.hid (fun j hj => by
          by_cases q : j < x
          · exact HT.out j q
          · obtain rfl : j = x := by omega
            exact e)
        have he : (xs.getD x 0 == n) = false := by simpa using e
        generalize xs.getD x 0 = v at *
        clear e
        go_wp2
        refine ⟨⟨x + 1, by rw [HL.out]; omega, by go_num, HV.out, U⟩, by simp [intOf]; omega⟩
    · obtain rfl : l = x := by omega
      have HV : Hid (pl xs n = 0) := Lib.hid (pl_none (fun i hi => HT.out i (by rw [← HL.out]; exact hi)))
      go_wp2
      go_ret
      exact ⟨show Ending.returned (.int .i64 (-1)) = .returned (.int .i64 bo) from by rw [← HB.out, HV.out]; rfl, U⟩

end Go.Proofs.YtanhhkdoejnpiaaGreat.G
/-! Of stage 15 -/
namespace Go.Proofs.YtanhhkdoejnpiaaGreat.G
open Go.Joins Go.ChangeShapes Go.WideShapes Go.ChangeAt Go.RowKit Go.Deep Go.Shelf Go.Maps
set_option linter.unusedVariables false
set_option linter.unusedSimpArgs false

theorem el_row : El 28 72 1 24 := ⟨by
  obtain ⟨i0, h1, h2, h3, h4⟩ := info_parts (P := Tryz.prog) (e := 72) (z := .slice none 0 0) (size := 1) (bytes := 24) (by kernel_rfl)
  exact ⟨i0, _, h1, h2, h3, h4, rfl⟩, Tryz.underlying28, by decide, by decide⟩
/-- Rows of the call's own. -/
def OwR (base : Nat) (w : World) (us : List Value) (L : List (List Int)) : Prop := us.length = L.length ∧ ∀ (j : Nat) (u : Value) (xs : List Int), us[j]? = some u → L[j]? = some xs → w.ownsRow base 3 1 u xs.length (xs.map (Value.int .i64))
theorem sl_own {k : IntKind} {w : World} {n₀ n : Nat} {e : TypeId} {u : Value} {xs : List Int} (h : w.ownsRow n₀ e 1 u n (xs.map (Value.int k))) (hl : xs.length = n) : Sl k w u xs := by
  obtain ⟨A, c, rfl⟩ := own_slice h
  obtain ⟨_, q1, q2, q3, q4⟩ := rv_of_own h (by simp [hl])
  exact ⟨A, c, by rw [hl], by omega, q2, q3, q4⟩
section
variable {base : Nat} {w w' : World} {us : List Value} {L : List (List Int)}
theorem OwR.keep (h : OwR base w us L) (hk : ∀ b cs, Blk w b 3 cs → Blk w' b 3 cs) : OwR base w' us L := ⟨h.1, fun j u xs h1 h2 => own_keep (h.2 j u xs h1 h2) hk⟩
theorem OwR.up (h : OwR base w us L) (k : Up w w') : OwR base w' us L := h.keep fun b cs hb => hb.up k
theorem OwR.gd (h : OwR base w us L) : Gd .i64 w us L := ⟨h.1, fun j u xs h1 h2 => sl_own (h.2 j u xs h1 h2) rfl⟩
theorem OwR.nil (base : Nat) (w : World) : OwR base w [] [] := ⟨rfl, fun j u xs h => by simp at h⟩
theorem OwR.snoc {u : Value} {xs : List Int} (h : OwR base w us L) (hu : w.ownsRow base 3 1 u xs.length (xs.map (Value.int .i64))) : OwR base w (us ++ [u]) (L ++ [xs]) := by
  refine ⟨by simp [h.1], fun j v ys h1 h2 => ?_⟩
  rcases Nat.lt_or_ge j us.length with q | q
  · rw [List.getElem?_append_left q] at h1
    rw [List.getElem?_append_left (by rw [← h.1]; exact q)] at h2
    exact h.2 j v ys h1 h2
  · rw [List.getElem?_append_right q] at h1
    rw [List.getElem?_append_right (by rw [← h.1]; exact q)] at h2
    have hj : j - us.length = 0 := by
      rcases Nat.eq_zero_or_pos (j - us.length) with q2 | q2
      · exact q2
      · rw [List.getElem?_eq_none (by rw [List.length_singleton]; exact q2)] at h1; cases h1
    rw [hj] at h1
    rw [← h.1, hj] at h2
    simp at h1 h2
    subst h1
    subst h2
    exact hu
theorem OwR.set_ {j : Nat} {u : Value} {xs : List Int} (h : OwR base w us L) (hu : w.ownsRow base 3 1 u xs.length (xs.map (Value.int .i64))) : OwR base w (us.set j u) (L.set j xs) := by
  refine ⟨by simp [h.1], fun i v ys h1 h2 => ?_⟩
  by_cases q : j = i
  · subst q
    have hj : j < us.length := by
      rcases Nat.lt_or_ge j us.length with q | q
      · exact q
      · rw [List.getElem?_eq_none (by simpa using q)] at h1; cases h1
    rw [List.getElem?_set_self hj] at h1
    rw [List.getElem?_set_self (by rw [← h.1]; exact hj)] at h2
    cases h1
    cases h2
    exact hu
  · rw [List.getElem?_set_ne q] at h1 h2
    exact h.2 i v ys h1 h2
end
/-- Where a copy is under way. -/
structure CpI (w : World) (va vb vn : Value) (g : Gr) (us : List Value) (OB x : Nat) (us2 : List Value) (vs : Value) (wr : World) : Prop where
  bG : Blk wr w.heap.size 30 #[va, vb]
  bR : Blk wr (w.heap.size + 1) 30 #[.slice none 0 0, .slice none 0 0]
  bO : Blk wr OB 30 #[vn, vs]
  ge : w.heap.size + 1 < OB
  own : wr.ownsRow w.heap.size 72 1 vs x us2
  rows : OwR w.heap.size wr us2 (g.2.take x)
  nodes : wr.ownsRow w.heap.size 71 4 vn g.1.length (nvs g.1 us)
  up : Up w wr
theorem CpI.upw {w wr wc : World} {va vb vn vs : Value} {g : Gr} {us us2 : List Value} {OB x : Nat} (h : CpI w va vb vn g us OB x us2 vs wr) (k : Up wr wc) : CpI w va vb vn g us OB x us2 vs wc :=
  ⟨h.bG.up k, h.bR.up k, h.bO.up k, h.ge, own_up h.own k, h.rows.up k, own_up h.nodes k, h.up.trans k⟩
theorem CpI.fin {w wr wc wb : World} {va vb vn vs v2 u : Value} {g : Gr} {us us2 : List Value} {OB x : Nat} (h : CpI w va vb vn g us OB x us2 vs wr) (k : Up wr wc) (hx : x < g.2.length) (hu : wc.ownsRow wr.heap.size 3 1 u (g.2.getD x []).length ((g.2.getD x []).map (Value.int .i64)))
    (hb : wb.ownsRow w.heap.size 72 1 v2 (x + 1) (us2 ++ [u])) (hg : wc.grownBy wb vs.ownBlock) : CpI w va vb vn g us OB (x + 1) (us2 ++ [u]) v2 (wb.setCell ⟨OB, 1, none⟩ v2) ∧ Blk wb OB 30 #[vn, vs] := by
  have hc := h.upw k
  have q1 := hc.bG.grown hg (own_row_ne hc.own hc.bG (by decide))
  have q2 := hc.bR.grown hg (own_row_ne hc.own hc.bR (by decide))
  have q3 := hc.bO.grown hg (own_row_ne hc.own hc.bO (by decide))
  have hge := h.ge
  have q4 : Blk (wb.setCell ⟨OB, 1, none⟩ v2) OB 30 #[vn, v2] := by simpa using q3.set_ 1 v2
  have hk : ∀ b t cs, t ≠ 72 → t ≠ 30 → Blk wc b t cs → Blk (wb.setCell ⟨OB, 1, none⟩ v2) b t cs := fun b t cs h1 h2 hb => by
    have hb2 := hb.grown hg (own_row_ne hc.own hb (fun e => h1 e.symm))
    exact hb2.far (p := ⟨OB, 1, none⟩) (hb2.ne_type q3 h2) v2
  have hrow : g.2.take (x + 1) = g.2.take x ++ [g.2.getD x []] := by
    rw [List.take_succ_eq_append_getElem hx]
    simp [List.getD, List.getElem?_eq_getElem hx]
  refine ⟨⟨q1.far (p := ⟨OB, 1, none⟩) (by show w.heap.size ≠ OB; omega) _, q2.far (p := ⟨OB, 1, none⟩) (by show w.heap.size + 1 ≠ OB; omega) _, q4, hge, own_far hb q3 (by decide) 1 v2, ?_, own_keep hc.nodes (fun b cs hb => hk b _ cs (by decide) (by decide) hb), (up_own hc.up hc.own hg).setCell (by show w.heap.size ≤ OB; omega) _⟩, q3⟩
  rw [hrow]
  exact (hc.rows.snoc (own_le hu h.up.size)).keep (fun b cs hb => hk b _ cs (by decide) (by decide) hb)
/-- A graph once more: its nodes and its rows are a call's own, the nodes' words are shared. -/
structure OwnC (base : Nat) (w : World) (vn vs : Value) (g : Gr) (us us2 : List Value) : Prop where
  nodes : w.ownsRow base 71 4 vn g.1.length (nvs g.1 us)
  own : w.ownsRow base 72 1 vs g.2.length us2
  rows : OwR base w us2 g.2
theorem OwnC.up {base : Nat} {w w' : World} {vn vs : Value} {g : Gr} {us us2 : List Value} (h : OwnC base w vn vs g us us2) (k : Up w w') : OwnC base w' vn vs g us us2 := ⟨own_up h.nodes k, own_up h.own k, h.rows.up k⟩
theorem OwnC.far {base b : Nat} {w : World} {vn vs : Value} {g : Gr} {us us2 : List Value} {t : TypeId} {cs : Array Value} (h : OwnC base w vn vs g us us2) (hb : Blk w b t cs) (h1 : 71 ≠ t) (h3 : 72 ≠ t) (h4 : 3 ≠ t) (i : Nat) (u : Value) : OwnC base (w.setCell ⟨b, i, none⟩ u) vn vs g us us2 :=
  ⟨own_far h.nodes hb h1 i u, own_far h.own hb h3 i u, h.rows.keep fun b' cs' hb' => hb'.far (p := ⟨b, i, none⟩) (hb'.ne_type hb h4) u⟩
theorem OwnC.gr {base : Nat} {w : World} {vn vs : Value} {g : Gr} {us us2 : List Value} (h : OwnC base w vn vs g us us2) (hn : Gd .u64 w us (g.1.map (·.2))) : GrV w (.agg #[vn, vs]) g := by
  refine ⟨_, _, rfl, ⟨us, ns_of_own h.nodes hn⟩, us2, ?_⟩
  obtain ⟨A, c, rfl⟩ := own_slice h.own
  obtain ⟨_, q1, q2, q3, q4⟩ := rv_of_own h.own (by rw [h.rows.1]; omega)
  exact ⟨A, c, rfl, q1, q2, q3, q4, h.rows.gd⟩
theorem GrV.parts {w : World} {A B : Option Addr} {n c s d : Nat} {g : Gr} (h : GrV w (.agg #[.slice A n c, .slice B s d]) g) : ∃ us, NsW w (.slice A n c) us g.1 ∧ Rw .i64 w (.slice B s d) g.2 := by
  obtain ⟨a, b, e, ⟨us, h1⟩, h2⟩ := h
  simp only [Value.agg.injEq, Array.mk.injEq, List.cons.injEq, and_true] at e
  obtain ⟨rfl, rfl⟩ := e
  exact ⟨us, h1, h2⟩
theorem NsW.gd {w : World} {v : Value} {us : List Value} {ns : List Nd} (h : NsW w v us ns) : Gd .u64 w us (ns.map (·.2)) := by
  obtain ⟨A, c, _, _, _, _, _, h5⟩ := h
  exact h5

end Go.Proofs.YtanhhkdoejnpiaaGreat.G
/-! Of stage 15 -/
namespace Go.Proofs.YtanhhkdoejnpiaaGreat.G
open Go.Joins Go.ChangeShapes Go.WideShapes Go.ChangeAt Go.RowKit Go.Deep Go.Shelf Go.Maps
set_option linter.unusedVariables false
set_option linter.unusedSimpArgs false

theorem ptk_pix {nd : Nd} (h : (nd.2.length : Int) = nd.1.2.1) : ptk nd.1.2.1 nd.1.2.2 nd.1.2.1.toNat = pix nd := by
  unfold ptk pix
  rw [show nd.1.2.1.toNat = nd.2.length from by omega]
  rfl
/-- The pointers up to one. -/
def pto (nd : Nd) (x : Nat) : List Int := ((pix nd).take x).map fun i => nd.2.getD i 0
theorem pto_step {nd : Nd} {x : Nat} (h : x < (pix nd).length) : pto nd (x + 1) = pto nd x ++ [nd.2.getD ((pix nd).getD x 0) 0] := by
  unfold pto
  rw [List.take_succ_eq_append_getElem h, List.map_append]
  congr 1
  show [nd.2.getD (pix nd)[x] 0] = _
  have : (pix nd).getD x 0 = (pix nd)[x] := by simp only [List.getD, List.getElem?_eq_getElem h, Option.getD_some]
  rw [this]
theorem pto_all (nd : Nd) {x : Nat} (h : x = (pix nd).length) : pto nd x = ptrs nd := by
  unfold pto ptrs
  rw [h, List.take_of_length_le (Nat.le_refl _)]
theorem pix_in {nd : Nd} {x : Nat} (h : x < (pix nd).length) : (pix nd).getD x 0 < nd.2.length ∧ isP nd ((pix nd).getD x 0 : Nat) = true := by
  have hm : (pix nd).getD x 0 ∈ pix nd := getD_mem 0 h
  obtain ⟨h1, h2⟩ := List.mem_filter.1 hm
  exact ⟨List.mem_range.1 h1, h2⟩
/-- A row of numbers that is read so wherever such blocks are kept. -/
abbrev SlR (w : World) (u : Value) (o : List Int) : Prop := Rob tInt (fun W => Sl .i64 W u o) w
theorem SlR.own {w : World} {n₀ n : Nat} {u : Value} {xs : List Int} (h : w.ownsRow n₀ 3 1 u n (xs.map (Value.int .i64))) (hl : xs.length = n) : SlR w u xs := fun w' k => sl_own (own_keep h (fun b cs hb => k b _ cs rfl hb)) hl
def RvPost (o' : List Int) (w : World) (e : Ending) (w' : World) : Prop := ∃ u, e = .returned u ∧ SlR w' u o' ∧ Up w w'
def RvAll (g : Gr) (f : Nat) : Prop := ∀ (v u : Value) (h : Int) (o : List Int) (w : World), GrV w v g → SlR w u o → Told g o → g.1.length < f + o.length → 0 ≤ h → h ≤ g.1.length →
  Calls Tryz.prog 55 #[v, .int .i64 h, u] w (RvPost (vis g f h o) w)
def VrR (g : Gr) (f : Nat) (nd : Nd) (o1 : List Int) (w w3 : World) (NB : Nat) (va vb Fv : Value) (u i : Value) (wr : World) : Prop :=
  ∃ x : Nat, x ≤ (pix nd).length ∧ i = .int .i64 x ∧ SlR wr u (vall g f (pto nd x) o1) ∧ Blk wr w.heap.size 30 #[va, vb] ∧ Blk wr NB 71 #[.int .i64 nd.1.1, .int .i64 nd.1.2.1, .int .u64 nd.1.2.2, Fv] ∧ Up w wr ∧ Up w3 wr
set_option maxRecDepth 100000 in
set_option maxHeartbeats 4000000 in
theorem rvisit_no (v u : Value) (g : Gr) (h : Int) (o : List Int) (w : World) (hg : GrV w v g) (huR : SlR w u o) (hno : h = 0 ∨ h ∈ o) : Calls Tryz.prog 55 #[v, .int .i64 h, u] w (RvPost o w) := by
  obtain ⟨A, c, B, d, rfl, m1, m2⟩ := hg.form
  have hu := huR.out
  have HPL := Lib.hid (fun W (k : Up w W) => rplace_any u o h W (hu.up k))
  have HU := Lib.hid huR
  obtain ⟨Au, cu, rfl⟩ := hu.slice
  clear hg hu huR
  generalize g.1.length = n at *
  generalize g.2.length = s at *
  by_cases h0 : h = 0
  · have hb : (h == 0) = true := by simp [h0]
    clear hno h0
    generalize o.length = lo at *
    go_enter Tryz.func55, Tryz.ntmps55
    go_wp2
    go_ret
    exact ⟨_, rfl, HU.out.up ((Up.refl w).alloc _), (Up.refl w).alloc _⟩
  · have hb : (h == 0) = false := beq_eq_false_iff_ne.2 h0
    have hm : h ∈ o := hno.resolve_left h0
    have hp := (pl_in hm).1
    generalize hpl : pl o h = p at *
    have hd : decide (p - 1 ≥ 0) = true := decide_eq_true (by omega)
    clear hno h0 hm hpl
    generalize o.length = lo at *
    go_enter Tryz.func55, Tryz.ntmps55
    go_wp2_with (fail)
    refine (HPL.out _ ((Up.refl w).alloc _)).mono ?_
    rintro e w1 ⟨rfl, k1⟩
    go_wp2
    go_ret
    exact ⟨_, rfl, HU.out.up (((Up.refl w).alloc _).trans k1), ((Up.refl w).alloc _).trans k1⟩
set_option maxRecDepth 100000 in
set_option maxHeartbeats 4000000 in
theorem rvisit_new (g : Gr) (hR : Rg g) (hn : g.1.length ≤ 1000000) (f : Nat) (ih : RvAll g f) (v u : Value) (y : Nat) (o : List Int) (w : World) (hg : GrV w v g) (huR : SlR w u o) (ho : Told g o) (hf : g.1.length < f + 1 + o.length) (hy : y < g.1.length) (hno : (y : Int) + 1 ∉ o) :
    Calls Tryz.prog 55 #[v, .int .i64 ((y : Int) + 1), u] w (RvPost (vall g f (ptrs (ndOf g ((y : Int) + 1))) (o ++ [(y : Int) + 1])) w) := by
  obtain ⟨A, c, B, d, rfl, m1, m2⟩ := hg.form
  have hu := huR.out
  clear huR
  have hin : inN g ((y : Int) + 1) := ⟨by omega, by omega⟩
  have HPL := Lib.hid (fun W (k : Up w W) => by
    have h1 := rplace_any u o ((y : Int) + 1) W (hu.up k)
    rw [show pl o ((y : Int) + 1) = 0 from by unfold pl; rw [if_neg hno]] at h1
    exact h1)
  have HG := Lib.hid hg
  have ht1 := ho.snoc hin hno
  have hol := ho.len
  have hb : (((y : Int) + 1) == 0) = false := beq_eq_false_iff_ne.2 (by omega)
  obtain ⟨Au, cu, rfl⟩ := hu.slice
  obtain ⟨-, hrv, -, -, -⟩ := hu.rv
  have HRV := Lib.hid (fun W (k : Up w W) => hrv.up k)
  obtain ⟨a, b, e, ⟨us0, hns⟩, -⟩ := hg
  simp only [Value.agg.injEq, Array.mk.injEq, List.cons.injEq, and_true] at e
  obtain ⟨rfl, rfl⟩ := e
  obtain ⟨p, uf, rfl, -, ⟨z0, z1, z2, z3⟩, hsl⟩ := hns.at_ hy
  have hnd2 : g.1.getD y ((0, 0, 0), []) = ndOf g ((y : Int) + 1) := by unfold ndOf; rw [show ((y : Int) + 1).toNat - 1 = y from by omega]
  obtain ⟨nd, hnd⟩ : ∃ nd, nd = ndOf g ((y : Int) + 1) := ⟨_, rfl⟩
  rw [hnd2, ← hnd] at z0 z1 z2 hsl
  have hmem : nd ∈ g.1 := by rw [hnd]; exact ndOf_mem hin
  have hhd := hR.hd nd hmem
  have hl := okH_len hhd.1
  have hmp := hR.mp nd hmem
  have HPT := Lib.hid (fun W => by
    have h1 := rptrs_any nd.1.1 nd.1.2.1 nd.1.2.2 hl.1 (by omega) hmp.1 hmp.2 W
    rw [ptk_pix hhd.2] at h1
    exact h1)
  have HFV : Hid (∀ x, x < (pix nd).length → 0 ≤ nd.2.getD ((pix nd).getD x 0) 0 ∧ nd.2.getD ((pix nd).getD x 0) 0 ≤ g.1.length) := Lib.hid (fun x hx => by
    obtain ⟨h1, h2⟩ := pix_in hx
    exact ⟨(hR.fu nd hmem _ (getD_mem 0 h1)).1, hR.pt nd hmem _ h1 h2⟩)
  have HFL : Hid (∀ x, x < (pix nd).length → (pix nd).getD x 0 < nd.2.length) := Lib.hid (fun x hx => (pix_in hx).1)
  obtain ⟨Af, cf, rfl⟩ := hsl.slice
  have HSF := Lib.hid (fun W (k : Up w W) => hsl.up k)
  have hmf := hsl.max
  unfold maxLen at hmf
  have HZ0 := Lib.hid (fun W (k : Up w W) => (k.cell z0 : W.cell? (p.add (y * 4)) = _))
  have HZ1 := Lib.hid (fun W (k : Up w W) => (k.cell z1 : W.cell? ⟨(p.add (y * 4)).block, (p.add (y * 4)).off + 1, none⟩ = _))
  have HZ2 := Lib.hid (fun W (k : Up w W) => (k.cell z2 : W.cell? ⟨(p.add (y * 4)).block, (p.add (y * 4)).off + 2, none⟩ = _))
  have HZ3 := Lib.hid (fun W (k : Up w W) => (k.cell z3 : W.cell? ⟨(p.add (y * 4)).block, (p.add (y * 4)).off + 3, none⟩ = _))
  have hlp0 := lt_of_cell z0
  have HT1 := Lib.hid ht1
  have HX := Lib.hid ih
  have HFU : Hid (g.1.length < f + (o ++ [(y : Int) + 1]).length) := Lib.hid (by rw [List.length_append, List.length_singleton]; omega)
  rw [← hnd]
  generalize hlo : o.length = lo at *
  have HLO := Lib.hid hlo
  clear z0 z1 z2 z3 hsl hns hnd2 hnd hmem hhd hmp hrv hu ho hf hno ih ht1 hR hin hlo hl
  have bG1 := Blk.new w 30 #[.slice (some p) g.1.length c, .slice B g.2.length d]
  go_enter Tryz.func55, Tryz.ntmps55
  go_wp2_with (fail)
  refine (HPL.out _ ((Up.refl w).alloc _)).mono ?_
  rintro e w1 ⟨rfl, h1⟩
  have k1 := ((Up.refl w).alloc (.cells #[.slice (some p) g.1.length c, .slice B g.2.length d] 30)).trans h1
  have bG2 := bG1.up h1
  have ke : Up w1 (w1.alloc (.cells #[] 3)) := (Up.refl w1).alloc _
  have bE := Blk.new w1 3 #[]
  have oE := own_empty (n₀ := w1.heap.size) (size := 1) bE (Nat.le_refl _)
  obtain ⟨v1, wa, hrun1, ho1, hga, -⟩ := run_any el_int (w := w1.alloc (.cells #[] 3)) 72 w1.heap.size 0 _ [] oE Au lo cu (o.map (Value.int .i64)) (by rw [List.length_map, HLO.out]; omega) (HRV.out _ (k1.trans ke)) (one_ints _ _) (by omega) ke.size
  rw [Nat.zero_add, List.nil_append] at ho1
  have ka := up_own ke oE hga
  obtain ⟨A1, c1, rfl⟩ := own_slice ho1
  have kb := ka.alloc (.cells #[.int .i64 ((y : Int) + 1)] 3)
  have ho1' := own_up ho1 ((Up.refl wa).alloc (.cells #[.int .i64 ((y : Int) + 1)] 3))
  obtain ⟨v2, wb, hrun2, ho2, hgb, -⟩ := run_any el_int (w := wa.alloc (.cells #[.int .i64 ((y : Int) + 1)] 3)) 72 w1.heap.size lo _ _ ho1' (some ⟨wa.heap.size, 0, none⟩) 1 1 [.int .i64 ((y : Int) + 1)] rfl (rv_of_blk (Blk.new wa _ _) (fun i u hi => by simpa using hi)) (fun u hu => by rw [List.mem_singleton] at hu; subst hu; rfl) (by omega) kb.size
  have kwb := k1.trans (up_own kb ho1' hgb)
  have bGb := bG2.up (up_own kb ho1' hgb)
  obtain ⟨A2, c2, rfl⟩ := own_slice ho2
  have HS2 := Lib.hid (SlR.own (xs := o ++ [(y : Int) + 1]) (by rw [List.map_append]; exact ho2) (by rw [List.length_append, HLO.out]; rfl))
  have qGb := bGb.cell
  have lGb := bGb.lt
  have y0 := HZ0.out _ kwb
  have y1 := HZ1.out _ kwb
  have y2 := HZ2.out _ kwb
  have y3 := HZ3.out _ kwb
  have yl := kwb.lt hlp0
  have BGB := Lib.hid bGb
  have KWB := Lib.hid kwb
  have qG1 := bG2.cell
  have lG1 := bG2.lt
  clear ho1 ho1' ho2 hga hgb oE bE ke ka kb kwb bG1 bG2 bGb k1 h1 hlp0
  go_wp2_with (first
    | (with_reducible refine halt_at (o := ⟨some 24, _, _, _, _, _⟩) ?_)
    | (at_builtin; refine Lib.wpList_append_run _ rfl _ _ _ _ rfl _ _ rfl rfl _ _ hrun1 ?_))
  unfold Halt
  refine Lib.wpList_append_run _ rfl _ _ _ _ rfl _ _ rfl rfl _ _ hrun2 ?_
  go_wp2_with (fail)
  refine (HPT.out _).mono ?_
  rintro e w3 ⟨v8, rfl, hlo8, k3⟩
  obtain ⟨Al, cl, rfl, hlat⟩ := loi_at hlo8
  have kb3 := ((Up.refl wb).alloc (.cells #[.int .i64 nd.1.1, .int .i64 nd.1.2.1, .int .u64 nd.1.2.2, .slice Af nd.2.length cf] 71)).trans k3
  have bN3 := Lib.hid ((Blk.new wb 71 #[.int .i64 nd.1.1, .int .i64 nd.1.2.1, .int .u64 nd.1.2.2, .slice Af nd.2.length cf]).up k3)
  have bG3 := Lib.hid (BGB.out.up kb3)
  have HS3 := Lib.hid (HS2.out.up kb3)
  have U3 := Lib.hid (KWB.out.trans kb3)
  have HLA := Lib.hid hlat
  clear hlat hlo8 k3 kb3 qGb lGb y0 y1 y2 y3 yl qG1 lG1 hrun1 hrun2
  obtain ⟨pn, hpn⟩ : ∃ pn, (pix nd).length = pn := ⟨_, rfl⟩
  rw [hpn] at HFV HFL ⊢
  have HPN := Lib.hid hpn
  clear hpn
  have hpn2 : pn ≤ 9223372036854775807 := by
    have h1 := HPN.out
    have h2 : (pix nd).length ≤ nd.2.length := by unfold pix; have := List.length_filter_le (fun (i : Nat) => isP nd (i : Int)) (List.range nd.2.length); simpa using this
    omega
  go_wp2_with (fail)
  go_loopw [2, 9] (fun u i wr => VrR g f nd (o ++ [(y : Int) + 1]) w w3 wb.heap.size (.slice (some p) g.1.length c) (.slice B g.2.length d) (.slice Af nd.2.length cf) u i wr) (fun _ i _ => pn - (intOf i).toNat)
  case atStart => exact ⟨0, Nat.zero_le _, rfl, HS3.out, bG3.out, bN3.out, U3.out, Up.refl _⟩
  case round =>
    rename World => wr
    obtain ⟨x, hx, rfl, hs, bG, bN, U, UL⟩ := hrel
    rw [HPN.out] at hx
    have MO := vall_more (vis_more g f) (pto nd x) _ HT1.out HFU.out
    by_cases hlt : x < pn
    · have hfv := HFV.out x hlt
      have hfl := HFL.out x hlt
      obtain ⟨pp, e1, hcl⟩ := HLA.out wr UL x (by rw [HPN.out]; exact hlt)
      obtain ⟨pf, e2, hcf⟩ := (HSF.out wr U).at_ hfl
      have HST := Lib.hid (pto_step (nd := nd) (x := x) (by rw [HPN.out]; exact hlt))
      obtain ⟨pi, hpi⟩ : ∃ pi, (pix nd).getD x 0 = pi := ⟨_, rfl⟩
      rw [hpi] at hcl hcf hfl hfv HST
      obtain ⟨fv, hfe⟩ : ∃ fv, nd.2.getD pi 0 = fv := ⟨_, rfl⟩
      rw [hfe] at hcf hfv HST
      subst e1
      subst e2
      have hll := lt_of_cell hcl
      have hlf := lt_of_cell hcf
      rw [block_of_add] at hll hlf
      have hwo : IntKind.i64.wrap fv = fv := by rw [IntKind.wrap_i64]; omega
      have qG := bG.cell
      have lG := bG.lt
      have qN := bN.cell
      have lN := bN.lt
      have HBG := Lib.hid bG
      have HBN := Lib.hid bN
      have HU := Lib.hid U
      have HUL := Lib.hid UL
      have HCL := Lib.hid (HX.out _ _ fv _ wr.drew (HG.out.up U.drew) (hs.up ((Up.refl wr).drew)) MO.td (by have h1 := MO.pre.length_le; have h2 := HFU.out; omega) hfv.1 hfv.2)
      clear hs bG bN U UL MO hpi hfe
      go_wp2_with (fail)
      go_region_with (go_at_call 55; (with_reducible refine HCL.out.mono ?_); rintro e w5 ⟨u5, rfl, hs5, k5⟩)
      all_goals
        have HS5 : Hid (SlR w5 u5 (vall g f (pto nd (x + 1)) (o ++ [(y : Int) + 1]))) := Lib.hid (by rw [HST.out, vall_app, vall_one]; exact hs5)
        have K5 := Lib.hid ((Up.refl wr).drew.trans k5)
        clear hs5 k5
        go_wp2
        exact ⟨⟨x + 1, by rw [HPN.out]; omega, by go_num, HS5.out, HBG.out.up K5.out, HBN.out.up K5.out, HU.out.trans K5.out, HUL.out.trans K5.out⟩, by simp [intOf]; omega⟩
    · obtain rfl : x = pn := by omega
      have HS5 := Lib.hid hs
      have HU := Lib.hid U
      have HPA := Lib.hid (pto_all nd (x := x) (by rw [HPN.out]))
      clear hs bG bN U UL MO
      go_wp2
      go_ret
      exact ⟨_, rfl, by rw [← HPA.out]; exact HS5.out, HU.out⟩
theorem rvisit_any (g : Gr) (hR : Rg g) (hn : g.1.length ≤ 1000000) : ∀ f, RvAll g f := by
  intro f
  induction f with
  | zero => intro v u h o w _ _ ho hf; have := ho.len; omega
  | succ f ih =>
    intro v u h o w hg hu ho hf h0 h1
    by_cases hm : h = 0 ∨ h ∈ o
    · have e : vis g (f + 1) h o = o := vis_no (fun q => by
        rcases hm with rfl | hm
        · exact no_0 g q.1
        · exact q.2 hm)
      rw [e]
      exact rvisit_no v u g h o w hg hu hm
    · have h2 : h ≠ 0 := fun e => hm (.inl e)
      have h3 : h ∉ o := fun e => hm (.inr e)
      obtain ⟨y, rfl⟩ : ∃ y : Nat, h = (y : Int) + 1 := ⟨h.toNat - 1, by omega⟩
      rw [vis_yes ⟨by omega, h1⟩ h3]
      exact rvisit_new g hR hn f ih v u y o w hg hu ho hf (by omega) h3
/-! The document's Canon of graphs (dovecoteref15.Canon): plainly. -/

theorem fs_at (P : Nat → Int) : ∀ (is : List Nat) (f : List Int) (j : Nat), j < f.length → (is.foldl (fun f i => f.set i (P i)) f).getD j 0 = if j ∈ is then P j else f.getD j 0
  | [], f, j, _ => by simp
  | i :: is, f, j, h => by
    have ih := fs_at P is (f.set i (P i)) j (by rw [List.length_set]; exact h)
    rw [List.foldl_cons, ih]
    by_cases q : j ∈ is
    · rw [if_pos q, if_pos (List.mem_cons_of_mem _ q)]
    · rw [if_neg q]
      by_cases e : i = j
      · subst e
        rw [if_pos (List.mem_cons_self)]
        simp only [List.getD, List.getElem?_set_self h, Option.getD_some]
      · rw [if_neg (fun z => by rcases List.mem_cons.1 z with z | z; exact e z.symm; exact q z)]
        simp only [List.getD, List.getElem?_set_ne e]
theorem fs_len (P : Nat → Int) : ∀ (is : List Nat) (f : List Int), (is.foldl (fun f i => f.set i (P i)) f).length = f.length
  | [], f => rfl
  | i :: is, f => by rw [List.foldl_cons, fs_len P is, List.length_set]
/-- A node's fields, so many pointers mapped. -/
def fm (o : List Int) (nd : Nd) (y : Nat) : List Int := ((pix nd).take y).foldl (fun f i => f.set i (pl o (nd.2.getD i 0))) nd.2
theorem fm_0 (o : List Int) (nd : Nd) : fm o nd 0 = nd.2 := rfl
theorem fm_len (o : List Int) (nd : Nd) (y : Nat) : (fm o nd y).length = nd.2.length := fs_len _ _ _
theorem fm_step {o : List Int} {nd : Nd} {y : Nat} (h : y < (pix nd).length) : fm o nd (y + 1) = (fm o nd y).set ((pix nd).getD y 0) (pl o (nd.2.getD ((pix nd).getD y 0) 0)) := by
  unfold fm
  rw [List.take_succ_eq_append_getElem h, List.foldl_append]
  have : (pix nd).getD y 0 = (pix nd)[y] := by simp only [List.getD, List.getElem?_eq_getElem h, Option.getD_some]
  rw [this]
  rfl
theorem pix_nodup (nd : Nd) : (pix nd).Nodup := List.Nodup.sublist List.filter_sublist List.nodup_range
theorem fm_at {o : List Int} {nd : Nd} {y : Nat} (h : y < (pix nd).length) : (fm o nd y).getD ((pix nd).getD y 0) 0 = nd.2.getD ((pix nd).getD y 0) 0 := by
  have e : (pix nd).getD y 0 = (pix nd)[y] := by simp only [List.getD, List.getElem?_eq_getElem h, Option.getD_some]
  unfold fm
  rw [fs_at _ _ _ _ (pix_in h).1, if_neg]
  rw [e]
  intro hm
  have hd := pix_nodup nd
  rw [← List.take_append_drop y (pix nd)] at hd
  rw [List.nodup_append] at hd
  refine hd.2.2 _ hm (pix nd)[y] ?_ rfl
  rw [List.drop_eq_getElem_cons h]
  exact List.mem_cons_self
theorem fm_all (o : List Int) (nd : Nd) {y : Nat} (h : y = (pix nd).length) : fm o nd y = (mpF (pl o) nd).2 := by
  refine getD_ext (by rw [fm_len, mp_len]) fun j hj => ?_
  rw [fm_len] at hj
  rw [mp_at _ _ hj]
  unfold fm
  rw [h, List.take_of_length_le (Nat.le_refl _), fs_at _ _ _ _ hj]
  by_cases q : isP nd (j : Int) = true
  · have hm : j ∈ pix nd := List.mem_filter.2 ⟨List.mem_range.2 hj, q⟩
    rw [if_pos q, if_pos hm]
  · have hm : j ∉ pix nd := fun z => q (List.mem_filter.1 z).2
    rw [if_neg q, if_neg hm]
/-- Where the nodes are being told. -/
structure Nb (g : Gr) (w : World) (va vb : Value) (o : List Int) (uo : Value) (OB x : Nat) (vn : Value) (us : List Value) (wr : World) : Prop where
  bG : Blk wr w.heap.size 30 #[va, vb]
  bR : Blk wr (w.heap.size + 1) 30 #[.slice none 0 0, .slice none 0 0]
  bO : Blk wr OB 30 #[vn, .slice none 0 0]
  ge : w.heap.size + 1 < OB
  so : SlR wr uo o
  own : wr.ownsRow w.heap.size 71 4 vn x (nvs ((o.take x).map (ndOf g)) us)
  ul : us.length = x
  rows : ∀ (k : Nat) (u : Value) (m : Int), us[k]? = some u → o[k]? = some m → wr.ownsRow w.heap.size 67 1 u (ndOf g m).2.length ((mpF (pl o) (ndOf g m)).2.map (Value.int .u64))
  up : Up w wr
section
variable {g : Gr} {w wr wc wb : World} {va vb vn v2 uo u : Value} {o : List Int} {OB x : Nat} {us : List Value}
theorem Nb.upw (h : Nb g w va vb o uo OB x vn us wr) (k : Up wr wc) : Nb g w va vb o uo OB x vn us wc :=
  ⟨h.bG.up k, h.bR.up k, h.bO.up k, h.ge, h.so.up k, own_up h.own k, h.ul, fun a u m h1 h2 => own_up (h.rows a u m h1 h2) k, h.up.trans k⟩
/-- One more node. -/
theorem Nb.fin (h : Nb g w va vb o uo OB x vn us wr) (k : Up wr wc) (hx : x < o.length) {nd : Nd} (hnd : ndOf g (o.getD x 0) = nd) (hu : wc.ownsRow wr.heap.size 67 1 u nd.2.length ((mpF (pl o) nd).2.map (Value.int .u64)))
    (hb : wb.ownsRow w.heap.size 71 4 v2 (x + 1) (nvs ((o.take x).map (ndOf g)) us ++ [.int .i64 nd.1.1, .int .i64 nd.1.2.1, .int .u64 nd.1.2.2, u])) (hg : wc.grownBy wb vn.ownBlock) :
    Nb g w va vb o uo OB (x + 1) v2 (us ++ [u]) (wb.setCell ⟨OB, 0, none⟩ v2) ∧ Blk wb OB 30 #[vn, .slice none 0 0] := by
  have hc := h.upw k
  have q1 := hc.bG.grown hg (own_row_ne hc.own hc.bG (by decide))
  have q2 := hc.bR.grown hg (own_row_ne hc.own hc.bR (by decide))
  have q3 := hc.bO.grown hg (own_row_ne hc.own hc.bO (by decide))
  have hge := h.ge
  have q4 : Blk (wb.setCell ⟨OB, 0, none⟩ v2) OB 30 #[v2, .slice none 0 0] := by simpa using q3.set_ 0 v2
  have hk : ∀ b t cs, t ≠ 71 → t ≠ 30 → Blk wc b t cs → Blk (wb.setCell ⟨OB, 0, none⟩ v2) b t cs := fun b t cs h1 h2 hb => by
    have hb2 := hb.grown hg (own_row_ne hc.own hb (fun e => h1 e.symm))
    exact hb2.far (p := ⟨OB, 0, none⟩) (hb2.ne_type q3 h2) v2
  have hox : o[x]? = some (o.getD x 0) := by simp [List.getD, List.getElem?_eq_getElem hx]
  have htk : o.take (x + 1) = o.take x ++ [o.getD x 0] := by
    rw [List.take_succ_eq_append_getElem hx]
    simp [List.getD, List.getElem?_eq_getElem hx]
  refine ⟨⟨q1.far (p := ⟨OB, 0, none⟩) (by show w.heap.size ≠ OB; omega) _, q2.far (p := ⟨OB, 0, none⟩) (by show w.heap.size + 1 ≠ OB; omega) _, q4, hge, hc.so.keep (fun b t cs ht hb => by unfold tInt at ht; subst ht; exact hk b _ cs (by decide) (by decide) hb), ?_, by simp [h.ul], fun a v m h1 h2 => ?_, (up_own hc.up hc.own hg).setCell (by show w.heap.size ≤ OB; omega) _⟩, q3⟩
  · rw [htk, List.map_append, nvs_app _ _ _ _ (by rw [List.length_map, List.length_take, h.ul]; omega)]
    have := own_far hb q3 (by decide) 0 v2
    rw [List.map_singleton, hnd]
    exact this
  · rcases Nat.lt_or_ge a us.length with q | q
    · rw [List.getElem?_append_left q] at h1
      exact own_keep (hc.rows a v m h1 h2) (fun b cs hb => hk b _ cs (by decide) (by decide) hb)
    · rw [List.getElem?_append_right q] at h1
      have ha : a - us.length = 0 := by
        rcases Nat.eq_zero_or_pos (a - us.length) with q2 | q2
        · exact q2
        · rw [List.getElem?_eq_none (by rw [List.length_singleton]; exact q2)] at h1; cases h1
      rw [ha] at h1
      simp only [List.getElem?_cons_zero, Option.some.injEq] at h1
      subst h1
      have hax : a = x := by have := h.ul; omega
      subst hax
      rw [hox] at h2
      cases h2
      rw [hnd]
      exact own_keep (own_le hu h.up.size) (fun b cs hb => hk b _ cs (by decide) (by decide) hb)
end
/-- Where the handles are being told. -/
structure Sb (g : Gr) (w : World) (va vb : Value) (o : List Int) (uo : Value) (OB j : Nat) (vn : Value) (us : List Value) (vs : Value) (us2 : List Value) (wr : World) : Prop where
  bG : Blk wr w.heap.size 30 #[va, vb]
  bR : Blk wr (w.heap.size + 1) 30 #[.slice none 0 0, .slice none 0 0]
  bO : Blk wr OB 30 #[vn, vs]
  ge : w.heap.size + 1 < OB
  so : SlR wr uo o
  nodes : wr.ownsRow w.heap.size 71 4 vn o.length (nvs (o.map (ndOf g)) us)
  ul : us.length = o.length
  words : ∀ (k : Nat) (u : Value) (m : Int), us[k]? = some u → o[k]? = some m → wr.ownsRow w.heap.size 67 1 u (ndOf g m).2.length ((mpF (pl o) (ndOf g m)).2.map (Value.int .u64))
  own : wr.ownsRow w.heap.size 72 1 vs j us2
  rows : OwR w.heap.size wr us2 ((g.2.take j).map fun row => row.map (pl o))
  up : Up w wr
section
variable {g : Gr} {w wr wc wb : World} {va vb vn vs v2 uo u : Value} {o : List Int} {OB j : Nat} {us us2 : List Value}
theorem Nb.sb (h : Nb g w va vb o uo OB o.length vn us wr) : Sb g w va vb o uo OB 0 vn us (.slice none 0 0) [] wr := by
  have h1 := h.own
  rw [List.take_of_length_le (Nat.le_refl _)] at h1
  exact ⟨h.bG, h.bR, h.bO, h.ge, h.so, h1, h.ul, h.rows, World.ownsRow_nil _ _ _ _, OwR.nil _ _, h.up⟩
theorem Sb.upw (h : Sb g w va vb o uo OB j vn us vs us2 wr) (k : Up wr wc) : Sb g w va vb o uo OB j vn us vs us2 wc :=
  ⟨h.bG.up k, h.bR.up k, h.bO.up k, h.ge, h.so.up k, own_up h.nodes k, h.ul, fun a u m h1 h2 => own_up (h.words a u m h1 h2) k, own_up h.own k, h.rows.up k, h.up.trans k⟩
theorem Sb.fin (h : Sb g w va vb o uo OB j vn us vs us2 wr) (k : Up wr wc) (hj : j < g.2.length) {row : List Int} (hrow : g.2.getD j [] = row) (hu : wc.ownsRow wr.heap.size 3 1 u row.length ((row.map (pl o)).map (Value.int .i64)))
    (hb : wb.ownsRow w.heap.size 72 1 v2 (j + 1) (us2 ++ [u])) (hg : wc.grownBy wb vs.ownBlock) : Sb g w va vb o uo OB (j + 1) vn us v2 (us2 ++ [u]) (wb.setCell ⟨OB, 1, none⟩ v2) ∧ Blk wb OB 30 #[vn, vs] := by
  have hc := h.upw k
  have q1 := hc.bG.grown hg (own_row_ne hc.own hc.bG (by decide))
  have q2 := hc.bR.grown hg (own_row_ne hc.own hc.bR (by decide))
  have q3 := hc.bO.grown hg (own_row_ne hc.own hc.bO (by decide))
  have hge := h.ge
  have q4 : Blk (wb.setCell ⟨OB, 1, none⟩ v2) OB 30 #[vn, v2] := by simpa using q3.set_ 1 v2
  have hk : ∀ b t cs, t ≠ 72 → t ≠ 30 → Blk wc b t cs → Blk (wb.setCell ⟨OB, 1, none⟩ v2) b t cs := fun b t cs h1 h2 hb => by
    have hb2 := hb.grown hg (own_row_ne hc.own hb (fun e => h1 e.symm))
    exact hb2.far (p := ⟨OB, 1, none⟩) (hb2.ne_type q3 h2) v2
  have htk : g.2.take (j + 1) = g.2.take j ++ [row] := by
    rw [List.take_succ_eq_append_getElem hj, ← hrow]
    simp [List.getD, List.getElem?_eq_getElem hj]
  refine ⟨⟨q1.far (p := ⟨OB, 1, none⟩) (by show w.heap.size ≠ OB; omega) _, q2.far (p := ⟨OB, 1, none⟩) (by show w.heap.size + 1 ≠ OB; omega) _, q4, hge, hc.so.keep (fun b t cs ht hb => by unfold tInt at ht; subst ht; exact hk b _ cs (by decide) (by decide) hb), own_keep hc.nodes (fun b cs hb => hk b _ cs (by decide) (by decide) hb), h.ul, fun a v m h1 h2 => own_keep (hc.words a v m h1 h2) (fun b cs hb => hk b _ cs (by decide) (by decide) hb), own_far hb q3 (by decide) 1 v2, ?_, (up_own hc.up hc.own hg).setCell (by show w.heap.size ≤ OB; omega) _⟩, q3⟩
  rw [htk, List.map_append]
  refine (hc.rows.snoc (xs := row.map (pl o)) ?_).keep (fun b cs hb => hk b _ cs (by decide) (by decide) hb)
  rw [List.length_map]
  exact own_le hu h.up.size
theorem nvs_hds : ∀ (ns ms : List Nd) (us : List Value), ns.map (·.1) = ms.map (·.1) → nvs ns us = nvs ms us
  | [], [], us, _ => rfl
  | [], m :: r, us, h => by simp at h
  | n :: r, [], us, h => by simp at h
  | n :: r, m :: r', [], h => rfl
  | n :: r, m :: r', u :: us, h => by
    simp only [List.map_cons, List.cons.injEq] at h
    simp [nvs, h.1, nvs_hds r r' us h.2]
/-- All is told. -/
theorem Sb.gr (h : Sb g w va vb o uo OB g.2.length vn us vs us2 wr) (ho : o = ord g) {w' : World} (hk : ∀ b t cs, t ≠ 30 → Blk wr b t cs → Blk w' b t cs) : GrV w' (.agg #[vn, vs]) (canon g) := by
  have hul := h.ul
  have hrows := h.rows
  rw [List.take_of_length_le (Nat.le_refl _)] at hrows
  have hc1 : (canon g).1 = o.map fun m => mpF (pl o) (ndOf g m) := by rw [ho]; rfl
  have hc2 : (canon g).2 = g.2.map fun row => row.map (pl o) := by rw [ho]; rfl
  refine ⟨_, _, rfl, ⟨us, ?_⟩, us2, ?_⟩
  · rw [hc1]
    refine ns_of_own (base := w.heap.size) ?_ ⟨by simp [hul], fun k u xs h1 h2 => ?_⟩
    · rw [List.length_map, nvs_hds (o.map fun m => mpF (pl o) (ndOf g m)) (o.map (ndOf g)) us (by rw [List.map_map, List.map_map]; rfl)]
      exact own_keep h.nodes (fun b cs hb => hk b _ cs (by decide) hb)
    · rw [List.map_map, List.getElem?_map] at h2
      obtain ⟨m, hm, rfl⟩ := Option.map_eq_some_iff.1 h2
      exact sl_own (own_keep (h.words k u m h1 hm) (fun b cs hb => hk b _ cs (by decide) hb)) (by show (mpF (pl o) (ndOf g m)).2.length = _; rw [mp_len])
  · rw [hc2]
    have ho2 := own_keep h.own (fun b cs hb => hk b _ cs (by decide) hb)
    have hr2 := (hrows.keep (w' := w') (fun b cs hb => hk b _ cs (by decide) hb))
    obtain ⟨A, c, rfl⟩ := own_slice ho2
    obtain ⟨_, q1, q2, q3, q4⟩ := rv_of_own ho2 (by rw [hr2.1, List.length_map]; omega)
    exact ⟨A, c, by rw [List.length_map], by rw [List.length_map]; exact q1, q2, q3, q4, hr2.gd⟩
end

end Go.Proofs.YtanhhkdoejnpiaaGreat.G
