/- What is stored, swapped, moved and cleared in memory (package arena): contracts of Store, Swap, Move and Clear. -/
import Derived.Test.YtgcpkgogjcgfbaaAr3
namespace Go.Proofs.Ytgcpkgogjcgfbaa
open Go.ChangeShapes Go.WideShapes Go.ChangeAt Go.RowKit
set_option linter.unusedVariables false
set_option linter.unusedSimpArgs false

/-- Memory is handed back, and one thing more; two. -/
def Gives1 (w : World) (m : Me) (x : Value) (e : Ending) (w' : World) : Prop := ∃ P Q c d, e = .returned (.tuple #[.agg #[.int .i64 m.n, .slice (some P) m.n c, .slice (some Q) m.n d], x]) ∧ Sits w' m P Q c d ∧ Up w w'
def Gives2 (w : World) (m : Me) (x y : Value) (e : Ending) (w' : World) : Prop := ∃ P Q c d, e = .returned (.tuple #[.agg #[.int .i64 m.n, .slice (some P) m.n c, .slice (some Q) m.n d], x, y]) ∧ Sits w' m P Q c d ∧ Up w w'

def GivesF1 (w : World) (m : Me) (x : Value) (e : Ending) (w' : World) : Prop := ∃ P Q c d, e = .returned (.tuple #[.agg #[.int .i64 m.n, .slice (some P) m.n c, .slice (some Q) m.n d], x]) ∧ Sits w' m P Q c d ∧ Up w w' ∧ Fr w P Q
theorem GivesF1.weak {w w' : World} {m : Me} {x : Value} {e : Ending} (h : GivesF1 w m x e w') : Gives1 w m x e w' := by
  obtain ⟨P, Q, c, d, h1, h2, h3, _⟩ := h
  exact ⟨P, Q, c, d, h1, h2, h3⟩
def GivesF2 (w : World) (m : Me) (x y : Value) (e : Ending) (w' : World) : Prop := ∃ P Q c d, e = .returned (.tuple #[.agg #[.int .i64 m.n, .slice (some P) m.n c, .slice (some Q) m.n d], x, y]) ∧ Sits w' m P Q c d ∧ Up w w' ∧ Fr w P Q
theorem GivesF2.weak {w w' : World} {m : Me} {x y : Value} {e : Ending} (h : GivesF2 w m x y e w') : Gives2 w m x y e w' := by
  obtain ⟨P, Q, c, d, h1, h2, h3, _⟩ := h
  exact ⟨P, Q, c, d, h1, h2, h3⟩

theorem blk_row1 {w : World} {g : Nat} {t : TypeId} {v : Int} (h : Blk w g t #[.int .u64 v]) : Row w ⟨g, 0, none⟩ [v] := row_of_blk (xs := [v]) h

set_option maxHeartbeats 2000000 in
theorem store_at (n : Nat) (xs ys : List Int) (a s v : Int) (k : Nat) (P Q : Addr) (c d : Nat) (w : World) (hm : Sits w ⟨n, xs, ys⟩ P Q c d) (ha : U64 a) (hl : Leads a s k) (hk : k < n) :
    Calls Try.prog 70 #[.agg #[.int .i64 n, .slice (some P) n c, .slice (some Q) n d], .int .u64 a, .int .u64 v] w (GivesF1 w (Me.put ⟨n, xs, ys⟩ s (splice (Me.sp ⟨n, xs, ys⟩ s) k [v])) (.int .i64 0)) := by
  have hpl := Lib.hid (fun w => place_yes n 1 a s k (some P) (some Q) c d hm.1.2.1 (by omega) ha hl ⟨by omega, by omega⟩ w)
  have hlay := Lib.hid (fun (W : World) (R : Addr) (cw : Nat) (hR : Row W R [v]) (hU : Up w W) => lay_any ⟨n, xs, ys⟩ s [v] k P Q R c d cw W (hm.up hU) hl.1 hR hk (by simp; omega))
  generalize Me.put ⟨n, xs, ys⟩ s (splice (Me.sp ⟨n, xs, ys⟩ s) k [v]) = M at hlay ⊢
  clear ha hl hm
  go_enter Try.func70, Try.ntmps70
  go_wp2_with (fail)
  refine (places_any _ _ _ _ _).mono ?_
  rintro e w1 ⟨rfl, h1⟩
  have D1 := ((Blk.new w 25 _).alloc _).up h1
  have F1 := (Blk.new _ 25 _).up h1
  simp at F1
  go_wp2_with (fail)
  refine (hpl.out _).mono ?_
  rintro e w2 ⟨rfl, h2⟩
  have D2 := D1.up h2
  have F2 := F1.up h2
  have U2 : Up w w2 := (((Up.refl w).alloc _).alloc _).trans h1 |>.trans h2
  clear D1 F1 h1 h2
  have D2c := D2.cell
  have D2l := D2.lt
  have F2l := F2.lt
  go_wp2_with (fail)
  refine (hlay.out _ ⟨w2.heap.size + 1, 0, none⟩ 1 (blk_row1 (t := 44) (by simpa using Blk.new (w2.alloc _) 44 _)) ((U2.alloc _).alloc _)).mono ?_
  rintro e w3 ⟨P', Q', c', d', rfl, hS, h3, hF⟩
  replace hF := Fr.up (a := w) hF ((U2.alloc _).alloc _).size
  have F3 := ((F2.alloc _).alloc _).up h3
  have U3 := ((U2.alloc _).alloc _).trans h3
  have F3c := F3.cell
  have F3f := F3.frozen
  clear D2 F2 D2c h3 U2
  go_wp2
  refine bodyPost_ret (v := .tuple #[.agg #[.int .i64 M.n, .slice (some P') M.n c', .slice (some Q') M.n d'], .int .i64 0]) (by simp [results, Try.results70, go_sem, F3c]) rfl ?_
  exact ⟨P', Q', c', d', rfl, hS.far3 F3 _ _ _, U3.set3 (by omega) _ _ _, hF⟩

set_option maxHeartbeats 2000000 in
theorem store_no (m : Me) (a v : Int) (P Q : Addr) (c d : Nat) (w : World) (hm : Sits w m P Q c d) (ha : U64 a) (hn : ¬ m.there a) :
    Calls Try.prog 70 #[.agg #[.int .i64 m.n, .slice (some P) m.n c, .slice (some Q) m.n d], .int .u64 a, .int .u64 v] w (Gives1 w m (.int .i64 2)) := by
  have hpl := Lib.hid (fun w => place_no m 1 a (some P) (some Q) c d hm.1.2.1 ⟨by omega, by omega⟩ (by omega) ha (fun k => hn (there_runs k)) w)
  have HM := Lib.hid hm
  clear ha hn hm
  go_enter Try.func70, Try.ntmps70
  go_wp2_with (fail)
  refine (places_any _ _ _ _ _).mono ?_
  rintro e w1 ⟨rfl, h1⟩
  have D1 := ((Blk.new w 25 _).alloc _).up h1
  have F1 := (Blk.new _ 25 _).up h1
  simp at F1
  go_wp2_with (fail)
  refine (hpl.out _).mono ?_
  rintro e w2 ⟨rfl, h2⟩
  have D2 := D1.up h2
  have F2 := F1.up h2
  have U2 : Up w w2 := (((Up.refl w).alloc _).alloc _).trans h1 |>.trans h2
  clear D1 F1 h1 h2
  have D2c := D2.cell
  have D2l := D2.lt
  have F2c := F2.cell
  have F2f := F2.frozen
  have F2l := F2.lt
  go_wp2
  refine bodyPost_ret (v := .tuple #[.agg #[.int .i64 m.n, .slice (some P) m.n c, .slice (some Q) m.n d], .int .i64 2]) (by simp [results, Try.results70, go_sem, F2c, F2l]) rfl ?_
  exact ⟨P, Q, c, d, rfl, ((HM.out.up U2).far3 F2 _ _ _).up ((Up.refl _).alloc _), (U2.set3 (by omega) _ _ _).alloc _⟩

theorem splice_one (l : List Int) (k : Nat) (v : Int) (h : k < l.length) : splice l k [v] = l.set k v := by
  rw [List.set_eq_take_append_cons_drop, if_pos h]
  simp [splice]
theorem Me.len_sp {m : Me} (h : m.ok) (s : Int) : (m.sp s).length = m.n := by
  unfold Me.sp
  split
  · exact h.2.2.2
  · exact h.2.2.1

/-- What is stored, and why not. -/
theorem store_any (m : Me) (a v : Int) (P Q : Addr) (c d : Nat) (w : World) (hm : Sits w m P Q c d) (ha : U64 a) :
    Calls Try.prog 70 #[.agg #[.int .i64 m.n, .slice (some P) m.n c, .slice (some Q) m.n d], .int .u64 a, .int .u64 v] w (Gives1 w (m.st a v) (.int .i64 (m.lde a))) := by
  by_cases h : m.there a
  · rcases leads_or a ha with ⟨s, p, hl⟩ | hb
    · obtain ⟨e1, e2, e3⟩ := hl.is
      obtain ⟨k, rfl⟩ : ∃ k : Nat, p = k := ⟨p.toNat, by have := hl.2.1; omega⟩
      have hp : k < m.n := by have := h.2; omega
      rw [show m.st a v = m.put (whs a) ((m.sp (whs a)).set (whp a).toNat v) from if_pos h, show m.lde a = 0 from if_pos h, e1, e2, Int.toNat_natCast, ← splice_one _ _ _ (by rw [Me.len_sp hm.1]; exact hp)]
      exact (store_at m.n m.xs m.ys a s v k P Q c d w hm ha hl hp).mono (fun _ _ h => h.weak)
    · exact absurd h.1 (by rw [hb]; decide)
  · rw [show m.st a v = m from if_neg h, show m.lde a = 2 from if_neg h]
    exact store_no m a v P Q c d w hm ha h

/-- What is stored, where it is there. -/
theorem store_ok (m : Me) (a v : Int) (P Q : Addr) (c d : Nat) (w : World) (hm : Sits w m P Q c d) (ha : U64 a) (h : m.there a) :
    Calls Try.prog 70 #[.agg #[.int .i64 m.n, .slice (some P) m.n c, .slice (some Q) m.n d], .int .u64 a, .int .u64 v] w (GivesF1 w (m.st a v) (.int .i64 0)) := by
  rcases leads_or a ha with ⟨s, p, hl⟩ | hb
  · obtain ⟨e1, e2, e3⟩ := hl.is
    obtain ⟨k, rfl⟩ : ∃ k : Nat, p = k := ⟨p.toNat, by have := hl.2.1; omega⟩
    have hp : k < m.n := by have := h.2; omega
    rw [show m.st a v = m.put (whs a) ((m.sp (whs a)).set (whp a).toNat v) from if_pos h, e1, e2, Int.toNat_natCast, ← splice_one _ _ _ (by rw [Me.len_sp hm.1]; exact hp)]
    exact store_at m.n m.xs m.ys a s v k P Q c d w hm ha hl hp
  · exact absurd h.1 (by rw [hb]; decide)

/-! ### Swap -/
/-- Is it swapped? -/
def Me.swb (m : Me) (a old : Int) : Bool := decide (m.there a ∧ m.ld a = old)
def Me.sw (m : Me) (a old new : Int) : Me := if m.there a ∧ m.ld a = old then m.st a new else m

set_option maxHeartbeats 2000000 in
theorem swap_yes (m M : Me) (a old new : Int) (P Q : Addr) (c d : Nat) (w : World) (hm : Sits w m P Q c d)
    (hld : ∀ w, Sits w m P Q c d → Calls Try.prog 57 #[.agg #[.int .i64 m.n, .slice (some P) m.n c, .slice (some Q) m.n d], .int .u64 a] w fun e w' => e = .returned (.tuple #[.int .u64 old, .int .i64 0]) ∧ Up w w')
    (hst : ∀ w, Sits w m P Q c d → Calls Try.prog 70 #[.agg #[.int .i64 m.n, .slice (some P) m.n c, .slice (some Q) m.n d], .int .u64 a, .int .u64 new] w (GivesF1 w M (.int .i64 0))) :
    Calls Try.prog 107 #[.agg #[.int .i64 m.n, .slice (some P) m.n c, .slice (some Q) m.n d], .int .u64 a, .int .u64 old, .int .u64 new] w (GivesF2 w M (.bool true) (.int .i64 0)) := by
  have HL := Lib.hid hld
  have HS := Lib.hid hst
  have HM := Lib.hid hm
  clear hld hst hm
  go_enter Try.func107, Try.ntmps107
  go_wp2_with (fail)
  refine (HL.out _ (HM.out.up (((Up.refl w).alloc _).alloc _))).mono ?_
  rintro e w1 ⟨rfl, h1⟩
  have D1 := ((Blk.new w 25 _).alloc _).up h1
  have F1 := (Blk.new _ 25 _).up h1
  simp at F1
  have U1 : Up w w1 := (((Up.refl w).alloc _).alloc _).trans h1
  clear h1
  have D1c := D1.cell
  have D1f := D1.frozen
  have D1l := D1.lt
  go_wp2_with (fail)
  refine (HS.out _ (HM.out.up U1)).mono ?_
  rintro e w2 ⟨P', Q', c', d', rfl, hS, h2, hF⟩
  replace hF := Fr.up (a := w) hF U1.size
  have D2 := D1.up h2
  have F2 := F1.up h2
  have U2 : Up w w2 := U1.trans h2
  clear D1 F1 D1c D1f h2
  have D2c := D2.cell
  have D2f := D2.frozen
  have D2l := D2.lt
  have F2c := F2.cell
  have F2f := F2.frozen
  go_wp2
  refine bodyPost_ret (v := .tuple #[.agg #[.int .i64 M.n, .slice (some P') M.n c', .slice (some Q') M.n d'], .bool true, .int .i64 0]) (by simp [results, Try.results107, go_sem, F2c]) rfl ?_
  exact ⟨P', Q', c', d', rfl, (hS.far3 D2 _ _ _).far3 (((F2.far (by simp <;> omega) _).far (by simp <;> omega) _).far (by simp <;> omega) _) _ _ _, (U2.set3 (Nat.le_refl _) _ _ _).set3 (by omega) _ _ _, hF⟩

set_option maxHeartbeats 2000000 in
theorem swap_no (m : Me) (a old new x : Int) (P Q : Addr) (c d : Nat) (w : World) (hm : Sits w m P Q c d) (hx : x ≠ old)
    (hld : ∀ w, Sits w m P Q c d → Calls Try.prog 57 #[.agg #[.int .i64 m.n, .slice (some P) m.n c, .slice (some Q) m.n d], .int .u64 a] w fun e w' => e = .returned (.tuple #[.int .u64 x, .int .i64 0]) ∧ Up w w') :
    Calls Try.prog 107 #[.agg #[.int .i64 m.n, .slice (some P) m.n c, .slice (some Q) m.n d], .int .u64 a, .int .u64 old, .int .u64 new] w (Gives2 w m (.bool false) (.int .i64 0)) := by
  have HL := Lib.hid hld
  have HM := Lib.hid hm
  have hb : (x != old) = true := bne_iff_ne.mpr hx
  clear hld hm hx
  go_enter Try.func107, Try.ntmps107
  go_wp2_with (fail)
  refine (HL.out _ (HM.out.up (((Up.refl w).alloc _).alloc _))).mono ?_
  rintro e w1 ⟨rfl, h1⟩
  have D1 := ((Blk.new w 25 _).alloc _).up h1
  have F1 := (Blk.new _ 25 _).up h1
  simp at F1
  have U1 : Up w w1 := (((Up.refl w).alloc _).alloc _).trans h1
  clear h1
  have D1c := D1.cell
  have D1l := D1.lt
  have F1c := F1.cell
  have F1f := F1.frozen
  go_wp2
  refine bodyPost_ret (v := .tuple #[.agg #[.int .i64 m.n, .slice (some P) m.n c, .slice (some Q) m.n d], .bool false, .int .i64 0]) (by simp [results, Try.results107, go_sem, F1c]) rfl ?_
  exact ⟨P, Q, c, d, rfl, (HM.out.up U1).far3 F1 _ _ _, U1.set3 (by omega) _ _ _⟩

set_option maxHeartbeats 2000000 in
theorem swap_far (m : Me) (a old new : Int) (P Q : Addr) (c d : Nat) (w : World) (hm : Sits w m P Q c d)
    (hld : ∀ w, Sits w m P Q c d → Calls Try.prog 57 #[.agg #[.int .i64 m.n, .slice (some P) m.n c, .slice (some Q) m.n d], .int .u64 a] w fun e w' => e = .returned (.tuple #[.int .u64 0, .int .i64 2]) ∧ Up w w') :
    Calls Try.prog 107 #[.agg #[.int .i64 m.n, .slice (some P) m.n c, .slice (some Q) m.n d], .int .u64 a, .int .u64 old, .int .u64 new] w (Gives2 w m (.bool false) (.int .i64 2)) := by
  have HL := Lib.hid hld
  have HM := Lib.hid hm
  clear hld hm
  go_enter Try.func107, Try.ntmps107
  go_wp2_with (fail)
  refine (HL.out _ (HM.out.up (((Up.refl w).alloc _).alloc _))).mono ?_
  rintro e w1 ⟨rfl, h1⟩
  have D1 := ((Blk.new w 25 _).alloc _).up h1
  have F1 := (Blk.new _ 25 _).up h1
  simp at F1
  have U1 : Up w w1 := (((Up.refl w).alloc _).alloc _).trans h1
  clear h1
  have D1c := D1.cell
  have D1l := D1.lt
  have F1c := F1.cell
  have F1f := F1.frozen
  go_wp2
  refine bodyPost_ret (v := .tuple #[.agg #[.int .i64 m.n, .slice (some P) m.n c, .slice (some Q) m.n d], .bool false, .int .i64 2]) (by simp [results, Try.results107, go_sem, F1c]) rfl ?_
  exact ⟨P, Q, c, d, rfl, (HM.out.up U1).far3 F1 _ _ _, U1.set3 (by omega) _ _ _⟩

/-- What is swapped, where the old word is there. -/
theorem swap_ok (m : Me) (a old new : Int) (P Q : Addr) (c d : Nat) (w : World) (hm : Sits w m P Q c d) (ha : U64 a) (h : m.there a) (k : m.ld a = old) :
    Calls Try.prog 107 #[.agg #[.int .i64 m.n, .slice (some P) m.n c, .slice (some Q) m.n d], .int .u64 a, .int .u64 old, .int .u64 new] w (GivesF2 w (m.st a new) (.bool true) (.int .i64 0)) := by
  refine swap_yes m _ a old new P Q c d w hm (fun w hm => ?_) (fun w hm => store_ok m a new P Q c d w hm ha h)
  have := load_any m a P Q c d w hm ha
  rw [k, show m.lde a = 0 from if_pos h] at this
  exact this
/-- What is swapped, and why not. -/
theorem swap_any (m : Me) (a old new : Int) (P Q : Addr) (c d : Nat) (w : World) (hm : Sits w m P Q c d) (ha : U64 a) :
    Calls Try.prog 107 #[.agg #[.int .i64 m.n, .slice (some P) m.n c, .slice (some Q) m.n d], .int .u64 a, .int .u64 old, .int .u64 new] w (Gives2 w (m.sw a old new) (.bool (m.swb a old)) (.int .i64 (m.lde a))) := by
  by_cases h : m.there a
  · have e0 : m.lde a = 0 := if_pos h
    by_cases k : m.ld a = old
    · rw [show m.sw a old new = m.st a new from if_pos ⟨h, k⟩, show m.swb a old = true from decide_eq_true ⟨h, k⟩, e0]
      exact (swap_ok m a old new P Q c d w hm ha h k).mono (fun _ _ h => h.weak)
    · rw [show m.sw a old new = m from if_neg (fun q => k q.2), show m.swb a old = false from decide_eq_false (fun q => k q.2), e0]
      refine swap_no m a old new (m.ld a) P Q c d w hm k (fun w hm => ?_)
      have := load_any m a P Q c d w hm ha
      rw [e0] at this
      exact this
  · rw [show m.sw a old new = m from if_neg (fun q => h q.1), show m.swb a old = false from decide_eq_false (fun q => h q.1), show m.lde a = 2 from if_neg h]
    refine swap_far m a old new P Q c d w hm (fun w hm => ?_)
    have := load_any m a P Q c d w hm ha
    rw [show m.ld a = 0 from if_neg h, show m.lde a = 2 from if_neg h] at this
    exact this
end Go.Proofs.Ytgcpkgogjcgfbaa
