/- What is stored, swapped, moved and cleared in memory (package arena): contracts of Store, Swap, Move and Clear. -/
import Derived.Test.YtjolikgficknnaaAr3
namespace Go.Proofs.Ytjolikgficknnaa
open Go.ChangeShapes Go.WideShapes Go.ChangeAt Go.RowKit
set_option linter.unusedVariables false
set_option linter.unusedSimpArgs false

/-- Memory is handed back, and one thing more; two. -/
def Gives1 (w : World) (m : Me) (x : Value) (e : Ending) (w' : World) : Prop := ∃ P Q c d, e = .returned (.tuple #[.agg #[.int .i64 m.n, .slice (some P) m.n c, .slice (some Q) m.n d], x]) ∧ Sits w' m P Q c d ∧ Up w w'
def Gives2 (w : World) (m : Me) (x y : Value) (e : Ending) (w' : World) : Prop := ∃ P Q c d, e = .returned (.tuple #[.agg #[.int .i64 m.n, .slice (some P) m.n c, .slice (some Q) m.n d], x, y]) ∧ Sits w' m P Q c d ∧ Up w w'

theorem blk_row1 {w : World} {g : Nat} {t : TypeId} {v : Int} (h : Blk w g t #[.int .u64 v]) : Row w ⟨g, 0, none⟩ [v] := row_of_blk (xs := [v]) h

set_option maxHeartbeats 2000000 in
theorem store_at (n : Nat) (xs ys : List Int) (a s v : Int) (k : Nat) (P Q : Addr) (c d : Nat) (w : World) (hm : Sits w ⟨n, xs, ys⟩ P Q c d) (ha : U64 a) (hl : Leads a s k) (hk : k < n) :
    Calls Try.prog 42 #[.agg #[.int .i64 n, .slice (some P) n c, .slice (some Q) n d], .int .u64 a, .int .u64 v] w (Gives1 w (Me.put ⟨n, xs, ys⟩ s (splice (Me.sp ⟨n, xs, ys⟩ s) k [v])) (.int .i64 0)) := by
  have hpl := Lib.hid (fun w => place_yes n 1 a s k (some P) (some Q) c d hm.1.2.1 (by omega) ha hl ⟨by omega, by omega⟩ w)
  have hlay := Lib.hid (fun (W : World) (R : Addr) (cw : Nat) (hR : Row W R [v]) (hU : Up w W) => lay_any ⟨n, xs, ys⟩ s [v] k P Q R c d cw W (hm.up hU) hl.1 hR hk (by simp; omega))
  generalize Me.put ⟨n, xs, ys⟩ s (splice (Me.sp ⟨n, xs, ys⟩ s) k [v]) = M at hlay ⊢
  clear ha hl hm
  go_enter Try.func42, Try.ntmps42
  go_wp2_with (fail)
  refine (places_any _ _ _ _ _).mono ?_
  rintro e w1 ⟨rfl, h1⟩
  have D1 := ((Blk.new w 25 _).alloc _).up h1
  have F1 := (Blk.new _ 25 _).up h1
  simp at F1
  go_wp2_with (fail)
  refine (hpl.out _).mono ?_
  rintro e w2 ⟨rfl, h2⟩
  have D2 := D1.up h2
  have F2 := F1.up h2
  have U2 : Up w w2 := (((Up.refl w).alloc _).alloc _).trans h1 |>.trans h2
  clear D1 F1 h1 h2
  have D2c := D2.cell
  have D2l := D2.lt
  have F2l := F2.lt
  go_wp2_with (fail)
  refine (hlay.out _ ⟨w2.heap.size + 1, 0, none⟩ 1 (blk_row1 (t := 37) (by simpa using Blk.new (w2.alloc _) 37 _)) ((U2.alloc _).alloc _)).mono ?_
  rintro e w3 ⟨P', Q', c', d', rfl, hS, h3⟩
  have F3 := ((F2.alloc _).alloc _).up h3
  have U3 := ((U2.alloc _).alloc _).trans h3
  have F3c := F3.cell
  have F3f := F3.frozen
  clear D2 F2 D2c h3 U2
  go_wp2
  refine bodyPost_ret (v := .tuple #[.agg #[.int .i64 M.n, .slice (some P') M.n c', .slice (some Q') M.n d'], .int .i64 0]) (by simp [results, Try.results42, go_sem, F3c]) rfl ?_
  exact ⟨P', Q', c', d', rfl, hS.far3 F3 _ _ _, U3.set3 (by omega) _ _ _⟩

set_option maxHeartbeats 2000000 in
theorem store_no (m : Me) (a v : Int) (P Q : Addr) (c d : Nat) (w : World) (hm : Sits w m P Q c d) (ha : U64 a) (hn : ¬ m.there a) :
    Calls Try.prog 42 #[.agg #[.int .i64 m.n, .slice (some P) m.n c, .slice (some Q) m.n d], .int .u64 a, .int .u64 v] w (Gives1 w m (.int .i64 2)) := by
  have hpl := Lib.hid (fun w => place_no m 1 a (some P) (some Q) c d hm.1.2.1 ⟨by omega, by omega⟩ (by omega) ha (fun k => hn (there_runs k)) w)
  have HM := Lib.hid hm
  clear ha hn hm
  go_enter Try.func42, Try.ntmps42
  go_wp2_with (fail)
  refine (places_any _ _ _ _ _).mono ?_
  rintro e w1 ⟨rfl, h1⟩
  have D1 := ((Blk.new w 25 _).alloc _).up h1
  have F1 := (Blk.new _ 25 _).up h1
  simp at F1
  go_wp2_with (fail)
  refine (hpl.out _).mono ?_
  rintro e w2 ⟨rfl, h2⟩
  have D2 := D1.up h2
  have F2 := F1.up h2
  have U2 : Up w w2 := (((Up.refl w).alloc _).alloc _).trans h1 |>.trans h2
  clear D1 F1 h1 h2
  have D2c := D2.cell
  have D2l := D2.lt
  have F2c := F2.cell
  have F2f := F2.frozen
  have F2l := F2.lt
  go_wp2
  refine bodyPost_ret (v := .tuple #[.agg #[.int .i64 m.n, .slice (some P) m.n c, .slice (some Q) m.n d], .int .i64 2]) (by simp [results, Try.results42, go_sem, F2c, F2l]) rfl ?_
  exact ⟨P, Q, c, d, rfl, ((HM.out.up U2).far3 F2 _ _ _).up ((Up.refl _).alloc _), (U2.set3 (by omega) _ _ _).alloc _⟩

theorem splice_one (l : List Int) (k : Nat) (v : Int) (h : k < l.length) : splice l k [v] = l.set k v := by
  rw [List.set_eq_take_append_cons_drop, if_pos h]
  simp [splice]
theorem Me.len_sp {m : Me} (h : m.ok) (s : Int) : (m.sp s).length = m.n := by
  unfold Me.sp
  split
  · exact h.2.2.2
  · exact h.2.2.1

/-- What is stored, and why not. -/
theorem store_any (m : Me) (a v : Int) (P Q : Addr) (c d : Nat) (w : World) (hm : Sits w m P Q c d) (ha : U64 a) :
    Calls Try.prog 42 #[.agg #[.int .i64 m.n, .slice (some P) m.n c, .slice (some Q) m.n d], .int .u64 a, .int .u64 v] w (Gives1 w (m.st a v) (.int .i64 (m.lde a))) := by
  by_cases h : m.there a
  · rcases leads_or a ha with ⟨s, p, hl⟩ | hb
    · obtain ⟨e1, e2, e3⟩ := hl.is
      obtain ⟨k, rfl⟩ : ∃ k : Nat, p = k := ⟨p.toNat, by have := hl.2.1; omega⟩
      have hp : k < m.n := by have := h.2; omega
      rw [show m.st a v = m.put (whs a) ((m.sp (whs a)).set (whp a).toNat v) from if_pos h, show m.lde a = 0 from if_pos h, e1, e2, Int.toNat_natCast, ← splice_one _ _ _ (by rw [Me.len_sp hm.1]; exact hp)]
      exact store_at m.n m.xs m.ys a s v k P Q c d w hm ha hl hp
    · exact absurd h.1 (by rw [hb]; decide)
  · rw [show m.st a v = m from if_neg h, show m.lde a = 2 from if_neg h]
    exact store_no m a v P Q c d w hm ha h

/-! ### Swap -/
/-- Is it swapped? -/
def Me.swb (m : Me) (a old : Int) : Bool := decide (m.there a ∧ m.ld a = old)
def Me.sw (m : Me) (a old new : Int) : Me := if m.there a ∧ m.ld a = old then m.st a new else m

end Go.Proofs.Ytjolikgficknnaa
