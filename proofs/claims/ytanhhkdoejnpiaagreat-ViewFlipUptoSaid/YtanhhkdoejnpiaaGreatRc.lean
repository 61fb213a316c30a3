/- What handles reach (view.reached), its words (view.Words, the document's Words): contracts. -/
import Derived.Test.YtanhhkdoejnpiaaGreatRb
namespace Go.Proofs.YtanhhkdoejnpiaaGreat.G
open Go.Joins Go.ChangeShapes Go.WideShapes Go.ChangeAt Go.RowKit Go.Deep Go.Shelf Go.Maps
set_option linter.unusedVariables false
set_option linter.unusedSimpArgs false

abbrev mec (n : Nat) (P Q : Addr) (c d : Nat) : Array Value := #[.int .i64 n, .slice (some P) n c, .slice (some Q) n d]
/-- Rows of words that are few enough. -/
structure RwOk (L : List (List Int)) : Prop where
  u : ∀ x ∈ L.flatten, U64 x
  l : L.flatten.length ≤ 1048576
theorem concat_let (v : Value) (L : List (List Int)) (w : World) (hL : Rw .u64 w v L) (hO : RwOk L) :
    Calls Tryz.prog 64 #[v] w fun e w' => ∃ A c, e = .returned (.slice A L.flatten.length c) ∧ Sl .u64 w' (.slice A L.flatten.length c) L.flatten ∧ Up w w' := by
  refine (concat_u64 v L w hL (by have := hO.l; omega)).mono ?_
  rintro e w' ⟨u, rfl, h1, -, h3⟩
  have hs := sl_ow (k := .u64) (xs := L.flatten) h1 rfl
  obtain ⟨A, c, rfl⟩ := hs.slice
  exact ⟨A, c, rfl, hs, h3⟩
theorem joined_let (v : Value) (L : List (List Int)) (w : World) (hL : Rw .u64 w v L) (hO : RwOk L) :
    Calls Tryz.prog 34 #[v] w fun e w' => ∃ A c, e = .returned (.slice A L.flatten.length c) ∧ Sl .u64 w' (.slice A L.flatten.length c) L.flatten ∧ Up w w' := by
  refine (joined_any v L w hL hO.l).mono ?_
  rintro e w' ⟨u, rfl, h1, h3⟩
  obtain ⟨A, c, rfl⟩ := h1.slice
  exact ⟨A, c, rfl, h1, h3⟩
def RchP (m : Me) (xs : List Int) (w : World) (e : Ending) (w' : World) : Prop := ∃ A c, e = .returned (.slice A (m.rch xs).length c) ∧ Sl .u64 w' (.slice A (m.rch xs).length c) (m.rch xs) ∧ Up w w'
theorem RmPost.let_ {m : Me} {xs : List Int} {w w' : World} {e : Ending} (h : RmPost (m.rch xs) w e w') : RchP m xs w e w' := by
  obtain ⟨u, rfl, h1, h2⟩ := h
  obtain ⟨A, c, rfl⟩ := h1.slice
  exact ⟨A, c, rfl, h1, h2⟩
theorem reach_let (m : Me) (P Q : Addr) (c d : Nat) (A : Option Addr) (n cu : Nat) (xs : List Int) (w : World) (hm : Sits w m P Q c d) (hwf : m.wf) (hx : Sl .u64 w (.slice A n cu) xs) (hu : ∀ x ∈ xs, U64 x) (hl : xs.length ≤ 1048576) :
    Calls Tryz.prog 63 #[mev m.n P Q c d, .slice A n cu] w (RchP m xs w) := by
  refine (reach_any m P Q c d A n cu xs w hm hwf (rd_sl hx) hu (by rw [← hx.len]; exact hl)).mono ?_
  rintro e w' ⟨v, rfl, h1, h2⟩
  have hs := sl_lo h1
  obtain ⟨A, c, rfl⟩ := hs.slice
  exact ⟨A, c, rfl, hs, h2⟩
set_option maxRecDepth 100000 in
set_option maxHeartbeats 4000000 in
theorem reached_any (m : Me) (P Q : Addr) (c d : Nat) (v : Value) (L : List (List Int)) (w : World) (hm : Sits w m P Q c d) (hwf : m.wf) (hL : Rw .u64 w v L) (hO : RwOk L) :
    Calls Tryz.prog 28 #[mev m.n P Q c d, v] w (RchP m L.flatten w) := by
  have HC := Lib.hid (fun W (k : Up w W) => concat_let v L W (hL.up k) hO)
  have HR := Lib.hid (fun W A n cu (k : Up w W) (h : Sl .u64 W (.slice A n cu) L.flatten) => reach_let m P Q c d A n cu L.flatten W (hm.up k) hwf h hO.u hO.l)
  obtain ⟨A, cu, rfl, hmx⟩ := hL.slice
  clear hm hL hO hwf hmx
  generalize L.length = n at *
  generalize L.flatten = xs at *
  obtain ⟨W0, hW0⟩ : ∃ W0 : World, W0 = (w.alloc (.cells (mec m.n P Q c d) 25)).drew := ⟨_, rfl⟩
  have U0 : Up W0 (w.alloc (.cells (mec m.n P Q c d) 25)).drew := by rw [hW0]; exact Up.refl _
  have k0 : Up w W0 := by rw [hW0]; exact ((Up.refl _).alloc _).drew
  have bM : Blk W0 w.heap.size 25 (mec m.n P Q c d) := by rw [hW0]; exact (Blk.new w _ _).drew
  clear hW0
  generalize xs.length = lx at *
  go_enter Tryz.func28, Tryz.ntmps28
  go_wp2_with (fail)
  go_region_held3 (fun w' => (∀ zi, w'.cell? ⟨w.heap.size, zi, none⟩ = (mec m.n P Q c d)[zi]?))
    (exact fun zi => (Blk.up bM (by assumption)).cell zi)
    (first
      | (go_at_call 64; ((with_reducible refine (HC.out _ (k0.trans (by assumption))).mono ?_); rintro e wz ⟨Ax, cx, rfl, sX, hz⟩; have UZ := Up.trans (a := W0) (by assumption) hz))
      | (go_at_call 63; ((with_reducible refine (HR.out _ _ _ _ (k0.trans (by assumption)) sX).mono ?_); rintro e wz ⟨Ay, cy, rfl, sY, hz⟩; have UZ := Up.trans (a := W0) (by assumption) hz)))
  all_goals
    go_wp2
    go_ret
    exact ⟨_, _, rfl, sY, k0.trans UZ⟩
theorem wwords_let (m : Me) (P Q : Addr) (c d : Nat) (A : Option Addr) (n cu : Nat) (xs : List Int) (w : World) (hm : Sits w m P Q c d) (hwf : m.wf) (hx : Sl .u64 w (.slice A n cu) xs) (hu : ∀ x ∈ xs, U64 x) (hl : xs.length ≤ 1048576) :
    Calls Tryz.prog 51 #[mev m.n P Q c d, .slice A n cu] w fun e w' => e = .returned (.tuple #[.int .i64 (m.ows xs), .int .i64 (m.fws xs)]) ∧ Up w w' := by
  exact words_is m P Q c d A n cu xs w hm hwf (rd_sl hx) hu (by rw [← hx.len]; exact hl)
set_option maxRecDepth 100000 in
set_option maxHeartbeats 4000000 in
theorem vwords_any (m : Me) (P Q : Addr) (c d : Nat) (v : Value) (L : List (List Int)) (w : World) (hm : Sits w m P Q c d) (hwf : m.wf) (hL : Rw .u64 w v L) (hO : RwOk L) :
    Calls Tryz.prog 18 #[mev m.n P Q c d, v] w fun e w' => e = .returned (.int .i64 (m.ows (m.rch L.flatten))) ∧ Up w w' := by
  have hn : m.n ≤ 4096 := hm.1.2.1
  have HC := Lib.hid (fun W (k : Up w W) => reached_any m P Q c d v L W (hm.up k) hwf (hL.up k) hO)
  have HR := Lib.hid (fun W A n cu (k : Up w W) (h : Sl .u64 W (.slice A n cu) (m.rch L.flatten)) => wwords_let m P Q c d A n cu (m.rch L.flatten) W (hm.up k) hwf h (rch_u64 m _) (by have := rch_len m hn L.flatten; omega))
  obtain ⟨A, cu, rfl, hmx⟩ := hL.slice
  clear hm hL hO hwf hmx
  unfold RchP at HC
  generalize L.length = n at *
  generalize m.rch L.flatten = xs at *
  generalize m.fws xs = fx at *
  generalize m.ows xs = ox at *
  obtain ⟨W0, hW0⟩ : ∃ W0 : World, W0 = (w.alloc (.cells (mec m.n P Q c d) 25)).drew := ⟨_, rfl⟩
  have U0 : Up W0 (w.alloc (.cells (mec m.n P Q c d) 25)).drew := by rw [hW0]; exact Up.refl _
  have k0 : Up w W0 := by rw [hW0]; exact ((Up.refl _).alloc _).drew
  have bM : Blk W0 w.heap.size 25 (mec m.n P Q c d) := by rw [hW0]; exact (Blk.new w _ _).drew
  clear hW0
  generalize xs.length = lx at *
  go_enter Tryz.func18, Tryz.ntmps18
  go_wp2_with (fail)
  go_region_held3 (fun w' => (∀ zi, w'.cell? ⟨w.heap.size, zi, none⟩ = (mec m.n P Q c d)[zi]?))
    (exact fun zi => (Blk.up bM (by assumption)).cell zi)
    (first
      | (go_at_call 28; ((with_reducible refine (HC.out _ (k0.trans (by assumption))).mono ?_); rintro e wz ⟨Ax, cx, rfl, sX, hz⟩; have UZ := Up.trans (a := W0) (by assumption) hz))
      | (go_at_call 51; ((with_reducible refine (HR.out _ _ _ _ (k0.trans (by assumption)) sX).mono ?_); rintro e wz ⟨rfl, hz⟩; have UZ := Up.trans (a := W0) (by assumption) hz)))
  all_goals
    go_wp2
    go_ret
    exact ⟨rfl, k0.trans UZ⟩
theorem rreach_let (m : Me) (P Q : Addr) (c d : Nat) (A : Option Addr) (n cu : Nat) (xs : List Int) (w : World) (hm : Sits w m P Q c d) (hwf : m.wf) (hx : Sl .u64 w (.slice A n cu) xs) (hu : ∀ x ∈ xs, U64 x) :
    Calls Tryz.prog 25 #[mev m.n P Q c d, .slice A n cu] w (RchP m xs w) := (rreach_any m P Q c d _ xs w hm hwf hx hu).mono fun _ _ h => h.let_
end Go.Proofs.YtanhhkdoejnpiaaGreat.G
