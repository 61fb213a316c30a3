/- What a deed's steps read: a thread's handles, a handle, H's node; and room (graph's deed: row, handle, first, second, room, node): contracts. -/
import Derived.Test.YtlocllcijncllaaGd
namespace Go.Proofs.Ytlocllcijncllaa
open Go.Joins Go.ChangeShapes Go.WideShapes Go.ChangeAt Go.RowKit Go.Deep Go.Shelf Go.Maps
set_option linter.unusedVariables false
set_option linter.unusedSimpArgs false

/-- What a thread does. -/
structure Op where
  kd : Int
  h : Int
  i : Int
  k : Int
  v : Int
  t : Int
  l : Int
  m : Int
/-- What a deed knows: the handles H and K, the answer. -/
structure Kn where
  h : Int
  k : Int
  e : Int
  v : Int
  y : Bool
def dcs (vn vs : Value) (th : Int) (o : Op) (s : Kn) : Array Value :=
  #[vn, vs, .int .i64 th, .int .i64 o.kd, .int .i64 o.h, .int .i64 o.i, .int .i64 o.k, .int .u64 o.v, .int .i64 o.t, .int .i64 o.l, .int .u64 o.m, .int .i64 s.h, .int .i64 s.k, .int .i64 s.e, .int .u64 s.v, .bool s.y]
/-- Which one, and why none. -/
def gte (xs : List Int) (h : Int) : Int := if 0 ≤ h ∧ h < xs.length then 0 else 5
def gtv (xs : List Int) (h : Int) : Int := if 0 ≤ h ∧ h < xs.length then xs.getD h.toNat 0 else 0
abbrev Qt (v : Value) (w : World) (e : Ending) (w' : World) : Prop := e = .returned v ∧ ∃ m, w' = w.drewN m

theorem row_any (D GS n j : Nat) (vn : Value) (th : Int) (o : Op) (s : Kn) (us2 : List Value) (A : Option Addr) (l c : Nat) (w : World) (hth : th = j) (hj : j < n) (hD : Blk w D 70 (dcs vn (.slice (some ⟨GS, 0, none⟩) n n) th o s)) (hG : Blk w GS 47 us2.toArray) (hu : us2[j]? = some (.slice A l c)) (hn : n ≤ maxLen) :
    Calls Try.prog 81 #[.pointer (some ⟨D, 0, none⟩)] w (Qt (.slice A l c) w) := by
  subst hth
  have hcD := hD.cell
  unfold dcs at hcD
  have hlD := hD.lt
  have hcG := hG.cell j
  rw [List.getElem?_toArray, hu] at hcG
  have hlG := hG.lt
  unfold maxLen at hn
  clear hD hG hu
  go_enter Try.func81, Try.ntmps81
  go_wp2
  go_quiet (fail)
  go_wp2
  go_ret
  exact ⟨rfl, _, rfl⟩

/-- The world has grown; what lies below is as it was, and so are all rows of functions. -/
structure Kf (base : Nat) (w w' : World) : Prop where
  os : w'.os = w.os
  tape : w'.tape = w.tape
  output : w'.output = w.output
  size : w.heap.size ≤ w'.heap.size
  old : ∀ k, k < base → k < w.heap.size → w'.heap[k]? = w.heap[k]?
  fns : ∀ k t cs, (t = 71 ∨ t = 105) → Blk w k t cs → Blk w' k t cs
theorem Kf.of_up {base : Nat} {w w' : World} (h : Up w w') : Kf base w w' := ⟨h.os, h.tape, h.output, h.size, fun k _ hk => h.block k hk, fun k t cs _ hb => hb.up h⟩
theorem Kf.refl (base : Nat) (w : World) : Kf base w w := .of_up (Up.refl w)
theorem Kf.trans {base : Nat} {a b c : World} (h : Kf base a b) (k : Kf base b c) : Kf base a c :=
  ⟨k.os.trans h.os, k.tape.trans h.tape, k.output.trans h.output, Nat.le_trans h.size k.size, fun i h1 h2 => (k.old i h1 (Nat.lt_of_lt_of_le h2 h.size)).trans (h.old i h1 h2), fun i t cs ht hb => k.fns i t cs ht (h.fns i t cs ht hb)⟩
theorem Kf.of_gb {base b : Nat} {w w' : World} {t : TypeId} {cs : Array Value} (h : w.grownBy w' (some b)) (hb : Blk w b t cs) (hge : base ≤ b) (h1 : 71 ≠ t) (h2 : 105 ≠ t) : Kf base w w' :=
  ⟨h.os, h.tape, h.output, h.size, fun k hk hl => h.block k hl (fun e => by cases e; omega), fun k t' cs' ht hk => hk.grown h (fun e => by
    cases e
    unfold Blk at hb hk
    rw [hb] at hk
    cases hk
    rcases ht with rfl | rfl
    · exact h1 rfl
    · exact h2 rfl)⟩
theorem Kf.set_ {base b : Nat} {w : World} {t : TypeId} {cs : Array Value} (hb : Blk w b t cs) (hge : base ≤ b) (h1 : 71 ≠ t) (h2 : 105 ≠ t) (i : Nat) (u : Value) : Kf base w (w.setCell ⟨b, i, none⟩ u) := .of_gb (grownBy_setAt _ b _ _) hb hge h1 h2
theorem Kf.up {base : Nat} {a b c : World} (h : Kf base a b) (k : Up b c) : Kf base a c := h.trans (.of_up k)
theorem Kf.below {w w' : World} {base : Nat} (h : Kf base w w') (a : World) (ha : Up a w) (hb : a.heap.size ≤ base) : Up a w' :=
  ⟨h.os.trans ha.os, h.tape.trans ha.tape, h.output.trans ha.output, Nat.le_trans ha.size h.size, fun k hk => (h.old k (by omega) (Nat.lt_of_lt_of_le hk ha.size)).trans (ha.block k hk)⟩

/-- A deed in its box. -/
def St (base D : Nat) (w : World) (g : Gr) (th : Int) (o : Op) (s : Kn) : Prop := ∃ vn vs us us2 BF GS BS, Blk w D 70 (dcs vn vs th o s) ∧ OwnG base w vn vs g us us2 BF GS BS ∧ base ≤ D
theorem St.up {base D : Nat} {w w' : World} {g : Gr} {th : Int} {o : Op} {s : Kn} (h : St base D w g th o s) (u : Up w w') : St base D w' g th o s := by
  obtain ⟨vn, vs, us, us2, BF, GS, BS, h1, h2, h3⟩ := h
  exact ⟨vn, vs, us, us2, BF, GS, BS, h1.up u, h2.up u, h3⟩
/-- A thread's handles. -/
def rowOf (g : Gr) (th : Int) : List Int := g.2.getD th.toNat []
def inN (g : Gr) (n : Int) : Prop := 1 ≤ n ∧ n ≤ g.1.length
instance (g : Gr) (n : Int) : Decidable (inN g n) := by unfold inN; infer_instance
def ndOf (g : Gr) (n : Int) : Nd := g.1.getD (n.toNat - 1) ((0, 0, 0), [])
/-- There is such a thread. -/
def isTh (g : Gr) (th : Int) : Prop := 0 ≤ th ∧ th < g.2.length
theorem OwnG.row {base : Nat} {w : World} {vn vs : Value} {g : Gr} {us us2 : List Value} {BF GS BS : Nat} (h : OwnG base w vn vs g us us2 BF GS BS) {th : Int} (ht : isTh g th) :
    ∃ A, us2[th.toNat]? = some (.slice A (rowOf g th).length (rowOf g th).length) ∧ Sl .i64 w (.slice A (rowOf g th).length (rowOf g th).length) (rowOf g th) := by
  obtain ⟨h0, h1⟩ := ht
  have hj : th.toNat < g.2.length := by omega
  have hju : th.toNat < us2.length := by rw [h.rows.len]; exact hj
  have hgr : g.2[th.toNat]? = some (rowOf g th) := by simp [rowOf, List.getD, List.getElem?_eq_getElem hj]
  obtain ⟨A, e, e2, e3⟩ := h.rows.row _ _ _ (List.getElem?_eq_getElem hju) hgr
  have hu := List.getElem?_eq_getElem hju
  rw [e] at hu
  exact ⟨A, hu, h.rows.gd.2 _ _ _ hu hgr⟩
/-- A step that only reads. -/
theorem row_st (base D : Nat) (g : Gr) (th : Int) (o : Op) (s : Kn) (w : World) (hS : St base D w g th o s) (ht : isTh g th) :
    ∃ A, Sl .i64 w (.slice A (rowOf g th).length (rowOf g th).length) (rowOf g th) ∧ ∀ m, Calls Try.prog 81 #[.pointer (some ⟨D, 0, none⟩)] (w.drewN m) (Qt (.slice A (rowOf g th).length (rowOf g th).length) w) := by
  obtain ⟨vn, vs, us, us2, BF, GS, BS, h1, h2, h3⟩ := hS
  obtain ⟨A, e1, e2⟩ := h2.row ht
  have hv := h2.val
  subst hv
  refine ⟨A, e2, fun m => ?_⟩
  refine (row_any D GS g.2.length th.toNat vn th o s us2 A _ _ (w.drewN m) (by have := ht.1; omega) (by have := ht.1; have := ht.2; omega) h1 h2.grid e1 h2.few).mono ?_
  rintro e w' ⟨rfl, m', rfl⟩
  exact ⟨rfl, m + m', by rw [World.drewN_drewN]⟩
theorem unless_any (b : Bool) (x : Int) (w : World) : Calls Try.prog 78 #[.bool b, .int .i64 x] w fun e w' => e = .returned (.int .i64 (if b then 0 else x)) ∧ w = w' := by
  cases b
  · go_enter Try.func78, Try.ntmps78
    go_wp2
    go_ret
    exact ⟨rfl, rfl⟩
  · go_enter Try.func78, Try.ntmps78
    go_wp2
    go_ret
    exact ⟨rfl, rfl⟩
/-- One of the thread's handles. -/
theorem handle_st (base D : Nat) (g : Gr) (th : Int) (o : Op) (s : Kn) (h : Int) (w : World) (hS : St base D w g th o s) (ht : isTh g th) :
    Calls Try.prog 83 #[.pointer (some ⟨D, 0, none⟩), .int .i64 h] w (Qt (.tuple #[.int .i64 (gtv (rowOf g th) h), .int .i64 (gte (rowOf g th) h)]) w) := by
  obtain ⟨A, hs, hc⟩ := row_st base D g th o s w hS ht
  have hc := Lib.hid (hc 0)
  have hmax := hs.max
  unfold maxLen at hmax
  unfold gtv gte
  clear hS ht
  generalize rowOf g th = xs at *
  by_cases h0 : 0 ≤ h
  · by_cases h1 : h < xs.length
    · rw [if_pos ⟨h0, h1⟩, if_pos ⟨h0, h1⟩]
      obtain ⟨j, rfl⟩ : ∃ j : Nat, h = j := ⟨h.toNat, by omega⟩
      obtain ⟨p, rfl, hcu⟩ := hs.at_ (x := j) (by omega)
      rw [Int.toNat_natCast]
      generalize xs.getD j 0 = u at *
      generalize xs.length = n at *
      have d0 : decide ((j : Int) ≥ 0) = true := decide_eq_true (by omega)
      have d1 : decide ((j : Int) < (n : Int)) = true := decide_eq_true (by omega)
      clear hs
      go_enter Try.func83, Try.ntmps83
      go_wp2_with (fail)
      refine hc.out.mono ?_
      rintro e w1 ⟨rfl, m, rfl⟩
      go_wp2
      go_ret2
      exact ⟨rfl, m, rfl⟩
    · rw [if_neg (by omega), if_neg (by omega)]
      generalize xs.length = n at *
      have d0 : decide (h ≥ 0) = true := decide_eq_true (by omega)
      have d1 : decide (h < (n : Int)) = false := decide_eq_false (by omega)
      clear hs
      go_enter Try.func83, Try.ntmps83
      go_wp2_with (fail)
      refine hc.out.mono ?_
      rintro e w1 ⟨rfl, m, rfl⟩
      go_wp2
      go_ret2
      exact ⟨rfl, m, rfl⟩
  · rw [if_neg (by omega), if_neg (by omega)]
    generalize xs.length = n at *
    have d0 : decide (h ≥ 0) = false := decide_eq_false (by omega)
    clear hs
    go_enter Try.func83, Try.ntmps83
    go_wp2_with (fail)
    refine hc.out.mono ?_
    rintro e w1 ⟨rfl, m, rfl⟩
    go_wp2
    go_ret2
    exact ⟨rfl, m, rfl⟩
end Go.Proofs.Ytlocllcijncllaa
