/- A deed's steps that write (graph's deed: next ..): contracts. -/
import Derived.Test.YtlocllcijncllaaGg
namespace Go.Proofs.Ytlocllcijncllaa
open Go.Joins Go.ChangeShapes Go.WideShapes Go.ChangeAt Go.RowKit Go.Deep Go.Shelf Go.Maps
set_option linter.unusedVariables false
set_option linter.unusedSimpArgs false

/-- What holds wherever the blocks of some types are as they are here. -/
def Rob (T : TypeId → Prop) (P : World → Prop) (w : World) : Prop := ∀ w', (∀ b t cs, T t → Blk w b t cs → Blk w' b t cs) → P w'
theorem Rob.out {T : TypeId → Prop} {P : World → Prop} {w : World} (h : Rob T P w) : P w := h w (fun _ _ _ _ hb => hb)
theorem Rob.keep {T : TypeId → Prop} {P : World → Prop} {w w' : World} (h : Rob T P w) (k : ∀ b t cs, T t → Blk w b t cs → Blk w' b t cs) : Rob T P w' := fun w'' k' => h w'' (fun b t cs ht hb => k' b t cs ht (k b t cs ht hb))
theorem Rob.up {T : TypeId → Prop} {P : World → Prop} {w w' : World} (h : Rob T P w) (u : Up w w') : Rob T P w' := h.keep fun _ _ _ _ hb => hb.up u
theorem Rob.set_ {T : TypeId → Prop} {P : World → Prop} {w : World} {b : Nat} {t : TypeId} {cs : Array Value} (h : Rob T P w) (hb : Blk w b t cs) (hn : ¬ T t) (i : Nat) (u : Value) : Rob T P (w.setCell ⟨b, i, none⟩ u) :=
  h.keep fun _ _ _ ht hc => hc.far (p := ⟨b, i, none⟩) (hc.ne_type hb (fun e => hn (e ▸ ht))) u
def tInt (t : TypeId) : Prop := t = 3
def tNod (t : TypeId) : Prop := t = 62 ∨ t = 26
def tRow (t : TypeId) : Prop := t = 47 ∨ t = 3
theorem own_keep {w w' : World} {n₀ : Nat} {e : TypeId} {size n : Nat} {v : Value} {xs : List Value} (h : w.ownsRow n₀ e size v n xs) (k : ∀ b cs, Blk w b e cs → Blk w' b e cs) : w'.ownsRow n₀ e size v n xs :=
  ⟨h.1, h.2.imp id fun ⟨g, cap, cur, h1, h2, h3, r⟩ => ⟨g, cap, cur, h1, h2, k g cur h3, r⟩⟩
/-- A full row takes one more: it moves. -/
theorem run_push {w : World} (ty : TypeId) (A : Option Addr) (xs : List Int) (n : Nat) (hx : Sl .i64 w (.slice A n n) xs) (B : Addr) (c : Nat) (y : Int) (hy : w.cell? B = some (.int .i64 y)) (hb : n ≤ 1000) :
    ∃ v' w', (Builtin.append_ #[47, 47] ty #[.slice A n n, .slice (some B) 1 c]).run Try.prog w = .ok v' w' ∧ Rob tInt (fun W => Sl .i64 W v' (xs ++ [y])) w' ∧ Up w w' := by
  obtain ⟨e, hrv, -, -, hA⟩ := hx.rv
  subst e
  obtain ⟨⟨i0, z, hi, hz0, hz1, hz2, hz3⟩, hu, _, _⟩ := el_int
  have hy' : ∀ j u, [Value.int .i64 y][j]? = some u → w.cell? (B.add j) = some u := fun j u h => by
    cases j with
    | zero => simp at h; subst h; rw [Addr.add_zero']; exact hy
    | succ j => simp at h
  have fin : ∀ v' w', w'.ownsRow w.heap.size 3 1 v' (xs.length + 1) (xs.map (Value.int .i64) ++ [Value.int .i64 y]) → w.grownBy w' none → Rob tInt (fun W => Sl .i64 W v' (xs ++ [y])) w' ∧ Up w w' := fun v' w' h0 h2 => by
    refine ⟨fun w2 k2 => ?_, Up.grown (Up.refl w) h2 (fun k e => by cases e)⟩
    have h1 := own_keep h0 (fun b cs hb => k2 b _ cs rfl hb)
    obtain ⟨A', c', rfl⟩ := own_slice h1
    obtain ⟨_, q1, q2, q3, q4⟩ := rv_of_own h1 (by simp)
    refine ⟨A', c', by simp, by simpa using q1, q2, q3, by simpa using q4⟩
  cases A with
  | none =>
    have h0 := hA rfl
    obtain rfl := List.eq_nil_of_length_eq_zero h0
    obtain ⟨v', w', hrun, r1, r2, _⟩ := run_append_own (P := Try.prog) w w.heap.size 47 ty 3 i0 _ 1 8 hu hi hz0 hz1 hz2 hz3 (by decide) (.slice none 0 0) 0 [] (World.ownsRow_nil w _ _ 1) B 1 c [.int .i64 y] rfl hy' (fun u h => by simp at h; subst h; rfl) (by unfold maxLen; omega) (by omega) (Nat.le_refl _)
    exact ⟨v', w', hrun, fin v' w' r1 (by simpa [Value.ownBlock] using r2)⟩
  | some a =>
    have hl : ∀ j u, (xs.map (Value.int .i64))[j]? = some u → w.cell? (a.add j) = some u := fun j u hj => by
      obtain ⟨p, e2, _, hc⟩ := hrv (fun q => by rw [q] at hj; simp at hj)
      cases e2
      exact hc j u hj
    obtain ⟨v', w', hrun, r1, r2⟩ := run_append_arg_grows (P := Try.prog) w 47 ty 3 i0 _ 1 8 hu hi hz0 hz1 hz2 hz3 (by decide) a xs.length xs.length (xs.map (Value.int .i64)) (by simp) hl B 1 c [.int .i64 y] rfl hy' (by omega) (by unfold maxLen; omega) (by omega)
    exact ⟨v', w', hrun, fin v' w' r1 r2⟩
theorem step_push {W0 w : World} {ops : Array Oper} {o : Oper} {a : Act} {K : Act → World → Prop} {Q : Exit → Act → World → Prop} {F : Prop} (hgd : o.guard = none) (s x : Operand) (ho : o.op = .call { callee := .builtin .append, args := #[s, x], argTypes := #[47, 47] })
    (A : Option Addr) (xs : List Int) (n : Nat) (hs : a.eval s = .slice A n n) (hx : Sl .i64 w (.slice A n n) xs) (B : Addr) (c : Nat) (y : Int) (hB : a.eval x = .slice (some B) 1 c) (hy : w.cell? B = some (.int .i64 y)) (hb : n ≤ 1000) (hU : Up W0 w)
    (h : ∀ A' l' c' w', Rob tInt (fun W => Sl .i64 W (.slice A' l' c') (xs ++ [y])) w' → Up W0 w' → K (a.put o.dst (.slice A' l' c')) w') : if Region.wanted o (yielded ops a.tmps) = true then Oper.wp Try.prog o a w K Q else F := by
  obtain ⟨v', w', hr, h1, h2⟩ := run_push o.type A xs n hx B c y hy hb
  have hw : Region.wanted o (yielded ops a.tmps) = true := by simp [Region.wanted, hgd]
  rw [if_pos hw]
  obtain ⟨A', c', rfl⟩ := h1.out.slice
  exact Lib.wp_append_run w s x 47 47 ho _ _ hs hB _ w' hr (h _ _ _ w' h1 (hU.trans h2))
/-- A deed ahead of its last step: the handles are its own, of the nodes it is known how they read. -/
def Md (base D : Nat) (w : World) (g : Gr) (th : Int) (o : Op) (s : Kn) : Prop := ∃ vn GS us2, Blk w D 70 (dcs vn (.slice (some ⟨GS, 0, none⟩) g.2.length g.2.length) th o s) ∧ Rob tNod (fun W => Ns W vn g.1) w ∧ Blk w GS 47 us2.toArray ∧ Rob tInt (fun W => Gd .i64 W us2 g.2) w ∧
  (∃ A, us2[th.toNat]? = some (.slice A (rowOf g th).length (rowOf g th).length)) ∧ base ≤ GS ∧ base ≤ D ∧ g.2.length ≤ maxLen
theorem Ct.keep {k : IntKind} {e : TypeId} {base : Nat} {w w' : World} {us : List Value} {L : List (List Int)} {B : Nat} (h : Ct k e base w us L B) (hk : ∀ g cs, Blk w g e cs → Blk w' g e cs) : Ct k e base w' us L B :=
  ⟨h.len, h.row, fun q => by
    obtain ⟨h1, cs, h2, h3⟩ := h.blk q
    exact ⟨h1, cs, hk _ _ h2, h3⟩, h.short⟩
theorem OwnG.nsR {base : Nat} {w : World} {vn vs : Value} {g : Gr} {us us2 : List Value} {BF GS BS : Nat} (h : OwnG base w vn vs g us us2 BF GS BS) : Rob tNod (fun W => Ns W vn g.1) w := fun w' k =>
  ⟨us, ns_of_own (own_keep h.nodes (fun b cs hb => k b _ cs (.inl rfl) hb)) (h.flds.keep (fun b cs hb => k b _ cs (.inr rfl) hb)).gd⟩
theorem OwnG.gdR {base : Nat} {w : World} {vn vs : Value} {g : Gr} {us us2 : List Value} {BF GS BS : Nat} (h : OwnG base w vn vs g us us2 BF GS BS) : Rob tInt (fun W => Gd .i64 W us2 g.2) w := fun w' k => (h.rows.keep (fun b cs hb => k b _ cs rfl hb)).gd
theorem OwnG.rwR {base : Nat} {w : World} {vn vs : Value} {g : Gr} {us us2 : List Value} {BF GS BS : Nat} (h : OwnG base w vn vs g us us2 BF GS BS) : Rob tRow (fun W => Rw .i64 W vs g.2) w := fun w' k =>
  ⟨us2, _, _, h.val, Nat.le_refl _, h.few, fun q => (by cases q), rv_of_blk (k _ _ _ (.inl rfl) h.grid) (fun j v hj => by simpa using hj), (h.rows.keep (fun b cs hb => k b _ cs (.inr rfl) hb)).gd⟩
theorem St.md {base D : Nat} {w : World} {g : Gr} {th : Int} {o : Op} {s : Kn} (h : St base D w g th o s) (ht : isTh g th) : Md base D w g th o s := by
  obtain ⟨vn, vs, us, us2, BF, GS, BS, hD, hO, hB⟩ := h
  obtain ⟨A, e1, e2⟩ := hO.row ht
  have := hO.val
  subst this
  exact ⟨vn, GS, us2, hD, hO.nsR, hO.grid, hO.gdR, ⟨A, e1⟩, hO.ge, hB, hO.few⟩
/-- A deed behind its last step. -/
def Fn (D : Nat) (w : World) (g : Gr) (th : Int) (o : Op) (s : Kn) : Prop := ∃ vn vs, Blk w D 70 (dcs vn vs th o s) ∧ Rob tNod (fun W => Ns W vn g.1) w ∧ Rob tRow (fun W => Rw .i64 W vs g.2) w
theorem Fn.up {D : Nat} {w w' : World} {g : Gr} {th : Int} {o : Op} {s : Kn} (h : Fn D w g th o s) (u : Up w w') : Fn D w' g th o s := by
  obtain ⟨vn, vs, h1, h2, h3⟩ := h
  exact ⟨vn, vs, h1.up u, h2.up u, h3.up u⟩
theorem St.fn {base D : Nat} {w : World} {g : Gr} {th : Int} {o : Op} {s : Kn} (h : St base D w g th o s) : Fn D w g th o s := by
  obtain ⟨vn, vs, us, us2, BF, GS, BS, hD, hO, hB⟩ := h
  exact ⟨vn, vs, hD, hO.nsR, hO.rwR⟩
/-- What a last step leaves. -/
def Lp (base D : Nat) (g : Gr) (th : Int) (o : Op) (s : Kn) (w : World) (e : Ending) (w' : World) : Prop := e = .returned (.int .i64 0) ∧ Kf base w w' ∧ Fn D w' g th o s
/-- A thread's handles are others now. -/
theorem set_fn {base D GS j n : Nat} {w : World} {vn v : Value} {g : Gr} {th : Int} {o : Op} {s : Kn} {us2 : List Value} {ys : List Int} (hn : g.2.length = n) (hD : Blk w D 70 (dcs vn (.slice (some ⟨GS, 0, none⟩) n n) th o s)) (hns : Rob tNod (fun W => Ns W vn g.1) w) (hG : Blk w GS 47 us2.toArray) (hgd : Rob tInt (fun W => Gd .i64 W us2 g.2) w)
    (hv : Rob tInt (fun W => Sl .i64 W v ys) w) (hge : base ≤ GS) (hm : g.2.length ≤ maxLen) : Kf base w (w.setCell ⟨GS, j, none⟩ v) ∧ Fn D (w.setCell ⟨GS, j, none⟩ v) (g.1, g.2.set j ys) th o s := by
  subst hn
  have hs : us2.toArray.setIfInBounds j v = (us2.set j v).toArray := by simp
  have hb := hG.set_ j v
  rw [hs] at hb
  have hgd' := hgd.set_ hG (by unfold tInt; decide) j v
  have hv' := hv.set_ hG (by unfold tInt; decide) j v
  have hl := hgd.out.1
  refine ⟨Kf.set_ hG hge (by decide) (by decide) j v, vn, _, hD.far (p := ⟨GS, j, none⟩) (hD.ne_type hG (by decide)) v, hns.set_ hG (by unfold tNod; decide) j v, fun w' k => ⟨us2.set j v, _, g.2.length, by simp, by simp, hm, fun q => (by cases q), rv_of_blk (k _ _ _ (.inl rfl) hb) (fun i u hi => by simpa using hi), by simp [hl], fun i u xs h1 h2 => ?_⟩⟩
  have k1 : ∀ b t cs, tInt t → Blk (w.setCell ⟨GS, j, none⟩ v) b t cs → Blk w' b t cs := fun b t cs ht hc => k b t cs (.inr ht) hc
  by_cases hij : i = j
  · subst hij
    have hl2 : i < us2.length := by
      rcases Nat.lt_or_ge i us2.length with q | q
      · exact q
      · rw [List.getElem?_eq_none (by simpa using q)] at h1; cases h1
    rw [List.getElem?_set_self hl2] at h1
    rw [List.getElem?_set_self (by rw [← hl]; exact hl2)] at h2
    cases h1
    cases h2
    exact hv' w' k1
  · rw [List.getElem?_set_ne (fun q => hij q.symm)] at h1 h2
    exact (hgd' w' k1).2 i u xs h1 h2
def pushG (g : Gr) (th h : Int) : Gr := (g.1, g.2.set th.toNat (rowOf g th ++ [h]))

set_option maxHeartbeats 2000000 in
theorem next_md (base D : Nat) (g : Gr) (th : Int) (o : Op) (s : Kn) (h : Int) (w : World) (hS : Md base D w g th o s) (ht : isTh g th) (hr : (rowOf g th).length < 16) :
    Calls Try.prog 82 #[.pointer (some ⟨D, 0, none⟩), .int .i64 h] w (Lp base D (pushG g th h) th o s w) := by
  obtain ⟨vn, GS, us2, hD, hns, hG, hgd, ⟨A, hu⟩, hge, hgD, hm⟩ := hS
  have hc := Lib.hid (fun w' (k : Up w w') => row_any D GS g.2.length th.toNat vn th o s us2 A _ _ w' (by have := ht.1; omega) (by have := ht.1; have := ht.2; omega) (hD.up k) (hG.up k) hu hm)
  have hcD := hD.cell
  unfold dcs at hcD
  have hlD := hD.lt
  have hcG := hG.cell th.toNat
  rw [List.getElem?_toArray, hu] at hcG
  have hlG := hG.lt
  have hfG := hG.frozen th.toNat
  obtain ⟨j, rfl⟩ : ∃ j : Nat, th = j := ⟨th.toNat, by have := ht.1; omega⟩
  have hjn : j < g.2.length := by have := ht.2; omega
  have hrs : Sl .i64 w (.slice A (rowOf g (j : Int)).length (rowOf g (j : Int)).length) (rowOf g (j : Int)) := by
    have hj2 : g.2[(j : Int).toNat]? = some (rowOf g (j : Int)) := by simp [rowOf, List.getD, List.getElem?_eq_getElem hjn]
    exact hgd.out.2 _ _ _ hu hj2
  rw [Int.toNat_natCast] at *
  unfold maxLen at hm
  have HRS := Lib.hid hrs
  have HGD := Lib.hid hgd
  have HNS := Lib.hid hns
  have HD := Lib.hid hD
  have HU := Lib.hid hu
  have HR := Lib.hid hr
  have HXL : Hid (us2.length = g.2.length) := Lib.hid hgd.out.1
  have D0 := hD.drew
  have D1 := hD
  have UA0 : Up w.drew (w.alloc (.cells #[.int .i64 h] 3)).drew := (Up.refl w.drew).alloc _
  have G0 := hG.drew
  have hne : D ≠ (⟨GS, j, none⟩ : Addr).block := hD.ne_type hG (by decide)
  have UW := (Up.refl w).drew
  have U0 := Up.refl w.drew
  have HC := Lib.hid (fun w' (k : Up w.drew w') => Qt.u (hc.out w' (UW.trans k)) rfl)
  clear hrs hgd hns hD hu hc hcD hlD hcG hlG hfG hr
  generalize hxs : rowOf g (j : Int) = xs at *
  have HXS := Lib.hid hxs
  clear hxs
  generalize hln : xs.length = ln at *
  have HLN := Lib.hid hln
  clear hln
  generalize hgl : g.2.length = n at *
  have HGL := Lib.hid hgl
  clear hgl
  go_enter Try.func82, Try.ntmps82
  go_wp2_with (fail)
  go_region_held3 (fun w' => (∀ i, w'.cell? ⟨D, i, none⟩ = (#[vn, .slice (some ⟨GS, 0, none⟩) n n, .int .i64 j, .int .i64 o.kd, .int .i64 o.h, .int .i64 o.i, .int .i64 o.k, .int .u64 o.v, .int .i64 o.t, .int .i64 o.l, .int .u64 o.m, .int .i64 s.h, .int .i64 s.k, .int .i64 s.e, .int .u64 s.v, .bool s.y] : Array Value)[i]?))
    (first
      | exact fun i => (Blk.up D0 (by assumption)).cell i
      | exact fun i => (Blk.up D0 (Up.alloc (by assumption) _)).cell i
      | exact fun i => (D1.alloc _).drew.cell i
      | exact fun i => ((Blk.up D0 (by assumption)).far hne _).cell i)
    (first
      | (go_at_call 81; ((with_reducible refine (HC.out _ (by first | assumption | exact Up.alloc (by assumption) _)).mono ?_); rintro e wz ⟨rfl, hz⟩; have UZ : Up w.drew wz := Up.trans (by first | assumption | exact Up.alloc (by assumption) _) hz))
      | (refine step_push (W0 := w.drew) (by rfl) _ _ (by rfl) A xs ln (by rfl) (HRS.out.up (UW.trans (UZ.alloc _))) ⟨wz.heap.size, 0, none⟩ 1 h (by rfl) (by simp) (by have := HR.out; omega) (UZ.alloc _) ?_; intro A1 l1 c1 wa SA UA; have GZ := G0.up UA; have GZc : wa.cell? ⟨GS, j, none⟩ = some (.slice A ln ln) := (GZ.cell j).trans (by rw [List.getElem?_toArray]; exact HU.out); have GZf := GZ.frozen j; have GZl := GZ.lt)
      | (refine step_push (W0 := w.drew) (by rfl) _ _ (by rfl) A xs ln (by rfl) (HRS.out.up (UW.trans UZ)) ⟨w.heap.size, 0, none⟩ 1 h (by rfl) (by have := ((Blk.new' w.drew (g := w.heap.size) (by simp) 3 #[.int .i64 h]).up hz).cell 0; simpa using this) (by have := HR.out; omega) UZ ?_; intro A1 l1 c1 wa SA UA; have GZ := G0.up UA; have GZc : wa.cell? ⟨GS, j, none⟩ = some (.slice A ln ln) := (GZ.cell j).trans (by rw [List.getElem?_toArray]; exact HU.out); have GZf := GZ.frozen j; have GZl := GZ.lt))
  all_goals
    go_wp2
    go_ret
    obtain ⟨k1, k2⟩ := set_fn (base := base) (j := j) HGL.out (HD.out.up (UW.trans UA)) (HNS.out.up (UW.trans UA)) (G0.up UA) (HGD.out.up (UW.trans UA)) SA hge (by rw [HGL.out]; unfold maxLen; exact hm)
    refine ⟨rfl, (Kf.of_up (UW.trans UA)).trans k1, ?_⟩
    unfold pushG
    rw [HXS.out]
    exact k2
end Go.Proofs.Ytlocllcijncllaa
