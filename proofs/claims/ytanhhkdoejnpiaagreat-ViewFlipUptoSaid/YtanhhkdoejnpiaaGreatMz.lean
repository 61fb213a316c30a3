/- Beginnings, rooms; the document's To: contracts (out of stages 7, 8, 11 and 13). -/
import Derived.Test.YtanhhkdoejnpiaaGreatAj
import Derived.ScopeJumps
import Derived.Deep.RegionHeld3
import Derived.Lib.SmallJoins
import Derived.BigQuiet
import Derived.Deep.QuietTactic
/-! Of stage 13 -/
namespace Go.Proofs.YtanhhkdoejnpiaaGreat
open Go.ChangeShapes Go.WideShapes Go.ChangeAt Go.RowKit
set_option linter.unusedVariables false
set_option linter.unusedSimpArgs false

/-- Is it a place? -/
def spot (s p : Int) : Prop := (s = 0 ∨ s = 1) ∧ 0 ≤ p ∧ p < 4294967296
instance decSpot (s p : Int) : Decidable (spot s p) := by unfold spot; infer_instance
def adrv (s p : Int) : Int := if spot s p then adr s p else 0
set_option maxHeartbeats 400000 in
theorem raddr (s p : Int) (w : World) :
    Calls Tryz.prog 45 #[.int .i64 s, .int .i64 p] w fun e w' => e = .returned (.int .u64 (adrv s p)) ∧ w = w' := by
  by_cases h : spot s p
  · rw [show adrv s p = adr s p from if_pos h]
    obtain ⟨h0, h1, h2⟩ := h
    rcases h0 with rfl | rfl
    · go_enter Tryz.func45, Tryz.ntmps45
      go_wp2
      go_ret
      exact ⟨ret_int (by unfold adr; omega), rfl⟩
    · go_enter Tryz.func45, Tryz.ntmps45
      go_wp2
      go_ret
      exact ⟨ret_int (by unfold adr; omega), rfl⟩
  · rw [show adrv s p = 0 from if_neg h]
    unfold spot at h
    by_cases n0 : s ≠ 0 ∧ s ≠ 1
    · obtain ⟨n0, n1⟩ := n0
      clear h
      go_enter Tryz.func45, Tryz.ntmps45
      go_wp2
      go_ret
      exact ⟨rfl, rfl⟩
    have hs : s = 0 ∨ s = 1 := by omega
    by_cases n2 : p < 0
    · clear h n0
      rcases hs with rfl | rfl
      · go_enter Tryz.func45, Tryz.ntmps45
        go_wp2
        go_ret
        exact ⟨rfl, rfl⟩
      · go_enter Tryz.func45, Tryz.ntmps45
        go_wp2
        go_ret
        exact ⟨rfl, rfl⟩
    have n3 : 4294967296 ≤ p := by omega
    clear h n0
    rcases hs with rfl | rfl
    · go_enter Tryz.func45, Tryz.ntmps45
      go_wp2
      go_ret
      exact ⟨rfl, rfl⟩
    · go_enter Tryz.func45, Tryz.ntmps45
      go_wp2
      go_ret
      exact ⟨rfl, rfl⟩

/-! ### What is right, what is left -/
abbrev bv (s a l : Int) : Value := .agg #[.int .i64 s, .int .i64 a, .int .i64 l]
/-- Is it right? -/
def rgt (s a l : Int) : Prop := (s = 0 ∨ s = 1) ∧ 0 ≤ a ∧ a ≤ l ∧ l ≤ 4096
instance decRgt (s a l : Int) : Decidable (rgt s a l) := by unfold rgt; infer_instance
def rgb (s a l : Int) : Bool := decide (rgt s a l)
/-- The end of a call that answers a Bump in a block of its own, and two numbers. -/
theorem ret_bump {fn : Func} {p u v : Tmp} (h : fn.results = #[.cell p 54, .tmp u, .tmp v]) (tmps : Array Value) (w : World) (g : Nat) (x y z : Int) (a b : Value)
    (hp : tmps.getD p undef = .pointer (some ⟨g, 0, none⟩)) (hg : Blk w g 54 #[.int .i64 x, .int .i64 y, .int .i64 z]) (ha : tmps.getD u undef = a) (hb : tmps.getD v undef = b) :
    (results fn tmps).run Tryz.prog w = .ok (.tuple #[bv x y z, a, b]) w := by
  have hp' : tmps[p]?.getD undef = .pointer (some ⟨g, 0, none⟩) := by simpa using hp
  have ha' : tmps[u]?.getD undef = a := by simpa using ha
  have hb' : tmps[v]?.getD undef = b := by simpa using hb
  simp [results, h, hp', ha', hb', asAddr, run_loadVar_row w g 54 54 _ _ _ hg Tryz.underlying54 rfl (by kernel_rfl)]

/-! ### What is taken -/
/-- May so many be taken? -/
def may (s a l n : Int) : Prop := rgt s a l ∧ 1 ≤ n ∧ n ≤ l - a

end Go.Proofs.YtanhhkdoejnpiaaGreat
/-! Of stage 13 -/
namespace Go.Proofs.YtanhhkdoejnpiaaGreat
open Go.ChangeShapes Go.WideShapes Go.ChangeAt Go.RowKit
set_option linter.unusedVariables false
set_option linter.unusedSimpArgs false

/-! ### The same, told by functions -/
instance decMay (s a l n : Int) : Decidable (may s a l n) := by unfold may; infer_instance
def tka (s a l n : Int) : Int := if may s a l n then a + n else a
def tkw (s a l n : Int) : Int := if may s a l n then adr s a else 0
def btke (s a l n : Int) : Int := if may s a l n then 0 else if rgt s a l ∧ 1 ≤ n then 4 else 1

end Go.Proofs.YtanhhkdoejnpiaaGreat
/-! Of stage 13 -/
namespace Go.Proofs.YtanhhkdoejnpiaaGreat
open Go.ChangeShapes Go.WideShapes Go.ChangeAt Go.RowKit
set_option linter.unusedVariables false
set_option linter.unusedSimpArgs false

set_option maxHeartbeats 1000000 in
theorem rright (s a l : Int) (w : World) :
    Calls Tryz.prog 158 #[bv s a l] w fun e w' => e = .returned (.bool (rgb s a l)) ∧ Up w w' := by
  by_cases h : rgt s a l
  · rw [show rgb s a l = true from decide_eq_true h]
    obtain ⟨h0, h1, h2, h3⟩ := h
    have e0 : 0 ≤ s := by omega
    have e1 : s ≤ 1 := by omega
    clear h0
    go_enter Tryz.func158, Tryz.ntmps158
    go_wp2
    go_ret
    exact ⟨rfl, (Up.refl _).alloc _⟩
  · rw [show rgb s a l = false from decide_eq_false h]
    unfold rgt at h
    by_cases c0 : s < 0
    · clear h
      go_enter Tryz.func158, Tryz.ntmps158
      go_wp2
      go_ret
      exact ⟨rfl, (Up.refl _).alloc _⟩
    have e0 : 0 ≤ s := by omega
    by_cases c1 : 1 < s
    · clear h c0
      go_enter Tryz.func158, Tryz.ntmps158
      go_wp2
      go_ret
      exact ⟨rfl, (Up.refl _).alloc _⟩
    have e1 : s ≤ 1 := by omega
    by_cases c2 : a < 0
    · clear h c0 c1
      go_enter Tryz.func158, Tryz.ntmps158
      go_wp2
      go_ret
      exact ⟨rfl, (Up.refl _).alloc _⟩
    have e2 : 0 ≤ a := by omega
    by_cases c3 : l < a
    · clear h c0 c1 c2
      go_enter Tryz.func158, Tryz.ntmps158
      go_wp2
      go_ret
      exact ⟨rfl, (Up.refl _).alloc _⟩
    have e3 : a ≤ l := by omega
    have c4 : decide (l ≤ 4096) = false := decide_eq_false (by omega)
    clear h c0 c1 c2 c3
    go_enter Tryz.func158, Tryz.ntmps158
    go_wp2
    go_ret
    exact ⟨rfl, (Up.refl _).alloc _⟩

set_option maxHeartbeats 1000000 in
theorem rtake_arg (s a l n : Int) (h : ¬ (rgt s a l ∧ 1 ≤ n)) (w : World) :
    Calls Tryz.prog 154 #[bv s a l, .int .i64 n] w fun e w' => e = .returned (.tuple #[bv s a l, .int .u64 0, .int .i64 1]) ∧ Up w w' := by
  have hr := Lib.hid (rright s a l)
  by_cases c : rgt s a l
  · have c1 : n < 1 := by
      rcases Int.lt_or_le n 1 with q | q
      · exact q
      · exact absurd ⟨c, q⟩ h
    rw [show rgb s a l = true from decide_eq_true c] at hr
    clear h c
    go_enter Tryz.func154, Tryz.ntmps154
    go_wp2_with (fail)
    refine (hr.out _).mono ?_
    rintro e w1 ⟨rfl, k1⟩
    have A := ((Blk.new w 54 #[.int .i64 s, .int .i64 a, .int .i64 l]).alloc (.cells #[.int .i64 0, .int .i64 0, .int .i64 0] 54)).up k1
    have R := (Blk.new' (w.alloc (.cells #[.int .i64 s, .int .i64 a, .int .i64 l] 54)) (g := w.heap.size + 1) (by simp) 54 #[.int .i64 0, .int .i64 0, .int .i64 0]).up k1
    have U := (((Up.refl w).alloc (.cells #[.int .i64 s, .int .i64 a, .int .i64 l] 54)).alloc (.cells #[.int .i64 0, .int .i64 0, .int .i64 0] 54)).trans k1
    clear k1
    have Ac := A.cell
    have Al := A.lt
    have Rc := R.cell
    have Rf := R.frozen
    have Rl := R.lt
    go_wp2
    (try simp only [Exit.inBlock, Exit.then])
    refine bodyPost_ret (ret_bump rfl _ _ _ _ _ _ _ _ rfl (R.set3 _ _ _) rfl rfl) rfl ?_
    exact ⟨rfl, U.set3 (by omega) _ _ _⟩
  · rw [show rgb s a l = false from decide_eq_false c] at hr
    clear h c
    go_enter Tryz.func154, Tryz.ntmps154
    go_wp2_with (fail)
    refine (hr.out _).mono ?_
    rintro e w1 ⟨rfl, k1⟩
    have A := ((Blk.new w 54 #[.int .i64 s, .int .i64 a, .int .i64 l]).alloc (.cells #[.int .i64 0, .int .i64 0, .int .i64 0] 54)).up k1
    have R := (Blk.new' (w.alloc (.cells #[.int .i64 s, .int .i64 a, .int .i64 l] 54)) (g := w.heap.size + 1) (by simp) 54 #[.int .i64 0, .int .i64 0, .int .i64 0]).up k1
    have U := (((Up.refl w).alloc (.cells #[.int .i64 s, .int .i64 a, .int .i64 l] 54)).alloc (.cells #[.int .i64 0, .int .i64 0, .int .i64 0] 54)).trans k1
    clear k1
    have Ac := A.cell
    have Al := A.lt
    have Rc := R.cell
    have Rf := R.frozen
    have Rl := R.lt
    go_wp2
    (try simp only [Exit.inBlock, Exit.then])
    refine bodyPost_ret (ret_bump rfl _ _ _ _ _ _ _ _ rfl (R.set3 _ _ _) rfl rfl) rfl ?_
    exact ⟨rfl, U.set3 (by omega) _ _ _⟩

set_option maxHeartbeats 1000000 in
theorem rtake_full (s a l n : Int) (h : rgt s a l) (h1 : 1 ≤ n) (h2 : l - a < n) (w : World) :
    Calls Tryz.prog 154 #[bv s a l, .int .i64 n] w fun e w' => e = .returned (.tuple #[bv s a l, .int .u64 0, .int .i64 4]) ∧ Up w w' := by
  have hr := Lib.hid (rright s a l)
  rw [show rgb s a l = true from decide_eq_true h] at hr
  have d : decide (l - a < n) = true := decide_eq_true h2
  have d1 : decide (n < 1) = false := decide_eq_false (by omega)
  obtain ⟨_, b1, b2, b3⟩ := h
  clear h1
  go_enter Tryz.func154, Tryz.ntmps154
  go_wp2_with (fail)
  refine (hr.out _).mono ?_
  rintro e w1 ⟨rfl, k1⟩
  have A := ((Blk.new w 54 #[.int .i64 s, .int .i64 a, .int .i64 l]).alloc (.cells #[.int .i64 0, .int .i64 0, .int .i64 0] 54)).up k1
  have R := (Blk.new' (w.alloc (.cells #[.int .i64 s, .int .i64 a, .int .i64 l] 54)) (g := w.heap.size + 1) (by simp) 54 #[.int .i64 0, .int .i64 0, .int .i64 0]).up k1
  have U := (((Up.refl w).alloc (.cells #[.int .i64 s, .int .i64 a, .int .i64 l] 54)).alloc (.cells #[.int .i64 0, .int .i64 0, .int .i64 0] 54)).trans k1
  clear k1
  have Ac := A.cell
  have Al := A.lt
  have Rc := R.cell
  have Rf := R.frozen
  have Rl := R.lt
  go_wp2
  (try simp only [Exit.inBlock, Exit.then])
  refine bodyPost_ret (ret_bump rfl _ _ _ _ _ _ _ _ rfl (R.set3 _ _ _) rfl rfl) rfl ?_
  exact ⟨rfl, U.set3 (by omega) _ _ _⟩

set_option maxHeartbeats 1000000 in
theorem brtake_ok (s a l n : Int) (h : may s a l n) (w : World) :
    Calls Tryz.prog 154 #[bv s a l, .int .i64 n] w fun e w' => e = .returned (.tuple #[bv s (a + n) l, .int .u64 (adr s a), .int .i64 0]) ∧ Up w w' := by
  have hr := Lib.hid (rright s a l)
  obtain ⟨h, h1, h2⟩ := h
  rw [show rgb s a l = true from decide_eq_true h] at hr
  have HA := fun w => raddr s a w
  rw [show adrv s a = adr s a from if_pos ⟨h.1, h.2.1, by have := h.2.2; omega⟩] at HA
  have HA := Lib.hid HA
  have d : decide (l - a < n) = false := decide_eq_false (by omega)
  have d1 : decide (n < 1) = false := decide_eq_false (by omega)
  obtain ⟨_, b1, b2, b3⟩ := h
  have b4 : a + n ≤ 4096 := by omega
  have HX := Lib.hid (show IntKind.i64.wrap (a + n) = a + n from by rw [IntKind.wrap_i64]; omega)
  go_enter Tryz.func154, Tryz.ntmps154
  go_wp2_with (fail)
  refine (hr.out _).mono ?_
  rintro e w1 ⟨rfl, k1⟩
  have A := ((Blk.new w 54 #[.int .i64 s, .int .i64 a, .int .i64 l]).alloc (.cells #[.int .i64 0, .int .i64 0, .int .i64 0] 54)).up k1
  have R := (Blk.new' (w.alloc (.cells #[.int .i64 s, .int .i64 a, .int .i64 l] 54)) (g := w.heap.size + 1) (by simp) 54 #[.int .i64 0, .int .i64 0, .int .i64 0]).up k1
  have U := (((Up.refl w).alloc (.cells #[.int .i64 s, .int .i64 a, .int .i64 l] 54)).alloc (.cells #[.int .i64 0, .int .i64 0, .int .i64 0] 54)).trans k1
  clear k1
  have Ac := A.cell
  have Al := A.lt
  have Rc := R.cell
  have Rf := R.frozen
  have Rl := R.lt
  go_wp2_with (fail)
  have A0 := A.drew
  have R0 := R.drew
  have U0 := U.drew
  have R0c := R0.cell
  have R0f := R0.frozen
  have R0l := R0.lt
  clear Al U
  go_region_held3 (fun w' => ∀ i, w'.cell? ⟨w.heap.size, i, none⟩ = (#[.int .i64 s, .int .i64 a, .int .i64 l] : Array Value)[i]?)
    (first
      | exact fun i => A0.cell i
      | exact fun i => (((A0.far (by simp) _).far (by simp) _).far (by simp) _).cell i)
    ((go_at_call 45; ((with_reducible refine (HA.out _).mono ?_); rintro e wz ⟨rfl, rfl⟩)))
  all_goals
    go_wp2_with (fail)
    (try simp only [Exit.inBlock, Exit.then])
    refine bodyPost_ret (ret_bump rfl _ _ _ _ _ _ _ _ rfl (R0.set3 _ _ _) rfl rfl) rfl ?_
    exact ⟨by rw [HX.out]; rfl, U0.set3 (by omega) _ _ _⟩

end Go.Proofs.YtanhhkdoejnpiaaGreat
/-! Of stage 13 -/
namespace Go.Proofs.YtanhhkdoejnpiaaGreat
open Go.Joins Go.ChangeShapes Go.WideShapes Go.ChangeAt Go.RowKit Go.Deep
set_option linter.unusedVariables false
set_option linter.unusedSimpArgs false

theorem brtake_any (s a l n : Int) (w : World) :
    Calls Tryz.prog 154 #[bv s a l, .int .i64 n] w fun e w' => e = .returned (.tuple #[bv s (tka s a l n) l, .int .u64 (tkw s a l n), .int .i64 (btke s a l n)]) ∧ Up w w' := by
  unfold tka tkw btke
  by_cases h : may s a l n
  · rw [if_pos h, if_pos h, if_pos h]; exact brtake_ok s a l n h w
  · rw [if_neg h, if_neg h, if_neg h]
    by_cases c : rgt s a l ∧ 1 ≤ n
    · rw [if_pos c]; exact rtake_full s a l n c.1 c.2 (by have := fun q => h ⟨c.1, c.2, q⟩; rcases Int.lt_or_le (l - a) n with q | q; exact q; exact absurd q this) w
    · rw [if_neg c]; exact rtake_arg s a l n c w

/-! ### What is taken at most, told by functions -/
/-- Are all taken? -/
def all_ (s a l n : Int) : Prop := rgt s a l ∧ l - a < n ∧ 1 ≤ l - a
instance decAll_ (s a l n : Int) : Decidable (all_ s a l n) := by unfold all_; infer_instance
section
variable {H : Type} {enc : TypeId × Value → H} {w : World} {base : Nat} {spare : Nat → Bool} {held : Bool}
end

end Go.Proofs.YtanhhkdoejnpiaaGreat
/-! Of stage 13 -/
namespace Go.Proofs.YtanhhkdoejnpiaaGreat
open Go.ChangeShapes Go.WideShapes Go.ChangeAt Go.RowKit
set_option linter.unusedVariables false
set_option linter.unusedSimpArgs false

/-- A room: how many words, both spaces; where the space goes on; the piece. -/
abbrev rov (n : Int) (A B : Value) (s a l x y : Int) : Value := .agg #[.int .i64 n, A, B, .int .i64 s, .int .i64 a, .int .i64 l, .int .i64 x, .int .i64 y]
abbrev roc (n : Int) (A B : Value) (s a l x y : Int) : Array Value := #[.int .i64 n, A, B, .int .i64 s, .int .i64 a, .int .i64 l, .int .i64 x, .int .i64 y]
/-- A space of memory, as it is handed on. -/
abbrev sl (P : Addr) (n c : Nat) : Value := .slice (some P) n c

theorem ret_room3 {fn : Func} {p u v : Tmp} (h : fn.results = #[.cell p 58, .tmp u, .tmp v]) (tmps : Array Value) (w : World) (g : Nat) (n s a l x y : Int) (A B b e : Value)
    (hp : tmps.getD p undef = .pointer (some ⟨g, 0, none⟩)) (hg : Blk w g 58 (roc n A B s a l x y)) (hb : tmps.getD u undef = b) (he : tmps.getD v undef = e) :
    (results fn tmps).run Tryz.prog w = .ok (.tuple #[rov n A B s a l x y, b, e]) w := by
  have hp' : tmps[p]?.getD undef = .pointer (some ⟨g, 0, none⟩) := by simpa using hp
  have hb' : tmps[u]?.getD undef = b := by simpa using hb
  have he' : tmps[v]?.getD undef = e := by simpa using he
  simp [results, h, hp', hb', he', asAddr, run_loadVar_row w g 58 58 _ _ _ hg Tryz.underlying58 rfl (by kernel_rfl)]

theorem Blk.set8 {w : World} {g : Nat} {t : TypeId} {a0 a1 a2 a3 a4 a5 a6 a7 : Value} (h : Blk w g t #[a0, a1, a2, a3, a4, a5, a6, a7]) (u0 u1 u2 u3 u4 u5 u6 u7 : Value) :
    Blk ((((((((w.setCell ⟨g, 0, none⟩ u0).setCell ⟨g, 1, none⟩ u1).setCell ⟨g, 2, none⟩ u2).setCell ⟨g, 3, none⟩ u3).setCell ⟨g, 4, none⟩ u4).setCell ⟨g, 5, none⟩ u5).setCell ⟨g, 6, none⟩ u6).setCell ⟨g, 7, none⟩ u7) g t #[u0, u1, u2, u3, u4, u5, u6, u7] := by
  have h1 : Blk (w.setCell ⟨g, 0, none⟩ u0) g t #[u0, a1, a2, a3, a4, a5, a6, a7] := h.set_ 0 u0
  have h2 : Blk ((w.setCell ⟨g, 0, none⟩ u0).setCell ⟨g, 1, none⟩ u1) g t #[u0, u1, a2, a3, a4, a5, a6, a7] := h1.set_ 1 u1
  have h3 : Blk (((w.setCell ⟨g, 0, none⟩ u0).setCell ⟨g, 1, none⟩ u1).setCell ⟨g, 2, none⟩ u2) g t #[u0, u1, u2, a3, a4, a5, a6, a7] := h2.set_ 2 u2
  have h4 : Blk ((((w.setCell ⟨g, 0, none⟩ u0).setCell ⟨g, 1, none⟩ u1).setCell ⟨g, 2, none⟩ u2).setCell ⟨g, 3, none⟩ u3) g t #[u0, u1, u2, u3, a4, a5, a6, a7] := h3.set_ 3 u3
  have h5 : Blk (((((w.setCell ⟨g, 0, none⟩ u0).setCell ⟨g, 1, none⟩ u1).setCell ⟨g, 2, none⟩ u2).setCell ⟨g, 3, none⟩ u3).setCell ⟨g, 4, none⟩ u4) g t #[u0, u1, u2, u3, u4, a5, a6, a7] := h4.set_ 4 u4
  have h6 : Blk ((((((w.setCell ⟨g, 0, none⟩ u0).setCell ⟨g, 1, none⟩ u1).setCell ⟨g, 2, none⟩ u2).setCell ⟨g, 3, none⟩ u3).setCell ⟨g, 4, none⟩ u4).setCell ⟨g, 5, none⟩ u5) g t #[u0, u1, u2, u3, u4, u5, a6, a7] := h5.set_ 5 u5
  have h7 : Blk (((((((w.setCell ⟨g, 0, none⟩ u0).setCell ⟨g, 1, none⟩ u1).setCell ⟨g, 2, none⟩ u2).setCell ⟨g, 3, none⟩ u3).setCell ⟨g, 4, none⟩ u4).setCell ⟨g, 5, none⟩ u5).setCell ⟨g, 6, none⟩ u6) g t #[u0, u1, u2, u3, u4, u5, u6, a7] := h6.set_ 6 u6
  have h8 : Blk ((((((((w.setCell ⟨g, 0, none⟩ u0).setCell ⟨g, 1, none⟩ u1).setCell ⟨g, 2, none⟩ u2).setCell ⟨g, 3, none⟩ u3).setCell ⟨g, 4, none⟩ u4).setCell ⟨g, 5, none⟩ u5).setCell ⟨g, 6, none⟩ u6).setCell ⟨g, 7, none⟩ u7) g t #[u0, u1, u2, u3, u4, u5, u6, u7] := h7.set_ 7 u7
  exact h8
theorem Up.set8 {a b : World} (h : Up a b) {g : Nat} (hg : a.heap.size ≤ g) (u0 u1 u2 u3 u4 u5 u6 u7 : Value) : Up a ((((((((b.setCell ⟨g, 0, none⟩ u0).setCell ⟨g, 1, none⟩ u1).setCell ⟨g, 2, none⟩ u2).setCell ⟨g, 3, none⟩ u3).setCell ⟨g, 4, none⟩ u4).setCell ⟨g, 5, none⟩ u5).setCell ⟨g, 6, none⟩ u6).setCell ⟨g, 7, none⟩ u7) :=
  (((((((h.setCell hg u0).setCell hg u1).setCell hg u2).setCell hg u3).setCell hg u4).setCell hg u5).setCell hg u6).setCell hg u7
theorem Sits.far8 {w : World} {m : Me} {p q : Addr} {c d g : Nat} {t : TypeId} {a0 a1 a2 a3 a4 a5 a6 a7 : Value} (h : Sits w m p q c d) (h0 : Blk w g t #[a0, a1, a2, a3, a4, a5, a6, a7]) (u0 u1 u2 u3 u4 u5 u6 u7 : Value) :
    Sits ((((((((w.setCell ⟨g, 0, none⟩ u0).setCell ⟨g, 1, none⟩ u1).setCell ⟨g, 2, none⟩ u2).setCell ⟨g, 3, none⟩ u3).setCell ⟨g, 4, none⟩ u4).setCell ⟨g, 5, none⟩ u5).setCell ⟨g, 6, none⟩ u6).setCell ⟨g, 7, none⟩ u7) m p q c d := by
  have h1 : Blk (w.setCell ⟨g, 0, none⟩ u0) g t #[u0, a1, a2, a3, a4, a5, a6, a7] := h0.set_ 0 u0
  have s1 : Sits (w.setCell ⟨g, 0, none⟩ u0) m p q c d := h.far h0 (by simp) u0
  have h2 : Blk ((w.setCell ⟨g, 0, none⟩ u0).setCell ⟨g, 1, none⟩ u1) g t #[u0, u1, a2, a3, a4, a5, a6, a7] := h1.set_ 1 u1
  have s2 : Sits ((w.setCell ⟨g, 0, none⟩ u0).setCell ⟨g, 1, none⟩ u1) m p q c d := s1.far h1 (by simp) u1
  have h3 : Blk (((w.setCell ⟨g, 0, none⟩ u0).setCell ⟨g, 1, none⟩ u1).setCell ⟨g, 2, none⟩ u2) g t #[u0, u1, u2, a3, a4, a5, a6, a7] := h2.set_ 2 u2
  have s3 : Sits (((w.setCell ⟨g, 0, none⟩ u0).setCell ⟨g, 1, none⟩ u1).setCell ⟨g, 2, none⟩ u2) m p q c d := s2.far h2 (by simp) u2
  have h4 : Blk ((((w.setCell ⟨g, 0, none⟩ u0).setCell ⟨g, 1, none⟩ u1).setCell ⟨g, 2, none⟩ u2).setCell ⟨g, 3, none⟩ u3) g t #[u0, u1, u2, u3, a4, a5, a6, a7] := h3.set_ 3 u3
  have s4 : Sits ((((w.setCell ⟨g, 0, none⟩ u0).setCell ⟨g, 1, none⟩ u1).setCell ⟨g, 2, none⟩ u2).setCell ⟨g, 3, none⟩ u3) m p q c d := s3.far h3 (by simp) u3
  have h5 : Blk (((((w.setCell ⟨g, 0, none⟩ u0).setCell ⟨g, 1, none⟩ u1).setCell ⟨g, 2, none⟩ u2).setCell ⟨g, 3, none⟩ u3).setCell ⟨g, 4, none⟩ u4) g t #[u0, u1, u2, u3, u4, a5, a6, a7] := h4.set_ 4 u4
  have s5 : Sits (((((w.setCell ⟨g, 0, none⟩ u0).setCell ⟨g, 1, none⟩ u1).setCell ⟨g, 2, none⟩ u2).setCell ⟨g, 3, none⟩ u3).setCell ⟨g, 4, none⟩ u4) m p q c d := s4.far h4 (by simp) u4
  have h6 : Blk ((((((w.setCell ⟨g, 0, none⟩ u0).setCell ⟨g, 1, none⟩ u1).setCell ⟨g, 2, none⟩ u2).setCell ⟨g, 3, none⟩ u3).setCell ⟨g, 4, none⟩ u4).setCell ⟨g, 5, none⟩ u5) g t #[u0, u1, u2, u3, u4, u5, a6, a7] := h5.set_ 5 u5
  have s6 : Sits ((((((w.setCell ⟨g, 0, none⟩ u0).setCell ⟨g, 1, none⟩ u1).setCell ⟨g, 2, none⟩ u2).setCell ⟨g, 3, none⟩ u3).setCell ⟨g, 4, none⟩ u4).setCell ⟨g, 5, none⟩ u5) m p q c d := s5.far h5 (by simp) u5
  have h7 : Blk (((((((w.setCell ⟨g, 0, none⟩ u0).setCell ⟨g, 1, none⟩ u1).setCell ⟨g, 2, none⟩ u2).setCell ⟨g, 3, none⟩ u3).setCell ⟨g, 4, none⟩ u4).setCell ⟨g, 5, none⟩ u5).setCell ⟨g, 6, none⟩ u6) g t #[u0, u1, u2, u3, u4, u5, u6, a7] := h6.set_ 6 u6
  have s7 : Sits (((((((w.setCell ⟨g, 0, none⟩ u0).setCell ⟨g, 1, none⟩ u1).setCell ⟨g, 2, none⟩ u2).setCell ⟨g, 3, none⟩ u3).setCell ⟨g, 4, none⟩ u4).setCell ⟨g, 5, none⟩ u5).setCell ⟨g, 6, none⟩ u6) m p q c d := s6.far h6 (by simp) u6
  have h8 : Blk ((((((((w.setCell ⟨g, 0, none⟩ u0).setCell ⟨g, 1, none⟩ u1).setCell ⟨g, 2, none⟩ u2).setCell ⟨g, 3, none⟩ u3).setCell ⟨g, 4, none⟩ u4).setCell ⟨g, 5, none⟩ u5).setCell ⟨g, 6, none⟩ u6).setCell ⟨g, 7, none⟩ u7) g t #[u0, u1, u2, u3, u4, u5, u6, u7] := h7.set_ 7 u7
  have s8 : Sits ((((((((w.setCell ⟨g, 0, none⟩ u0).setCell ⟨g, 1, none⟩ u1).setCell ⟨g, 2, none⟩ u2).setCell ⟨g, 3, none⟩ u3).setCell ⟨g, 4, none⟩ u4).setCell ⟨g, 5, none⟩ u5).setCell ⟨g, 6, none⟩ u6).setCell ⟨g, 7, none⟩ u7) m p q c d := s7.far h7 (by simp) u7
  exact s8

end Go.Proofs.YtanhhkdoejnpiaaGreat
/-! Of stage 13 -/
namespace Go.Proofs.YtanhhkdoejnpiaaGreat
open Go.Joins Go.ChangeShapes Go.WideShapes Go.ChangeAt Go.RowKit Go.Deep
set_option linter.unusedVariables false
set_option linter.unusedSimpArgs false

end Go.Proofs.YtanhhkdoejnpiaaGreat
/-! Of stage 13 -/
namespace Go.Proofs.YtanhhkdoejnpiaaGreat
open Go.Joins Go.ChangeShapes Go.WideShapes Go.ChangeAt Go.RowKit Go.Deep
set_option linter.unusedVariables false
set_option linter.unusedSimpArgs false

section
variable {H : Type} {enc : TypeId × Value → H} {w : World}
end
end Go.Proofs.YtanhhkdoejnpiaaGreat
/-! Of stage 13 -/
namespace Go.Proofs.YtanhhkdoejnpiaaGreat
open Go.ChangeShapes Go.WideShapes Go.ChangeAt Go.RowKit
set_option linter.unusedVariables false
set_option linter.unusedSimpArgs false

/-- Is an address over there? -/
def ovb (s A : Int) : Bool := whb A && decide (whs A = s)
theorem ovb_0 (s : Int) : ovb s 0 = false := by
  unfold ovb
  rw [show whb 0 = false from by unfold whb; decide]
  rfl
/-- An object's words. -/
def Me.wn (m : Me) (A : Int) : Int := m.atl A + 2
/-- Memory with the twin that goes to place a of space s. -/
def Me.cpm (m : Me) (s a A : Int) : Me := (m.mv A (adr s a) (m.wn A)).joinm A (adr s a)

/-- What To answers: memory, the place where the space goes on, the address, the error. -/
structure An where
  m : Me
  a : Int
  b : Int
  e : Int
def toa (m : Me) (s a l A : Int) : An :=
  if A = 0 then ⟨m, a, 0, 0⟩
  else if m.kne A ≠ 0 then ⟨m, a, 0, m.kne A⟩
  else if ovb s A then ⟨m, a, A, 0⟩
  else if m.twv A ≠ 0 then (if ovb s (m.twv A) then ⟨m, a, m.twv A, 0⟩ else ⟨m, a, 0, 10⟩)
  else if l - a < m.wn A then ⟨m, a, 0, 4⟩
  else ⟨m.cpm s a A, a + m.wn A, adr s a, 0⟩

/-! ### words of memory -/
theorem sp_put (m : Me) (s t : Int) (L : List Int) (hs : s = 0 ∨ s = 1) (ht : t = 0 ∨ t = 1) : (m.put t L).sp s = if s = t then L else m.sp s := by
  rcases hs with rfl | rfl <;> rcases ht with rfl | rfl <;> simp [Me.sp, Me.put]
theorem put_nn (m : Me) (t : Int) (L : List Int) : (m.put t L).n = m.n := by unfold Me.put; split <;> rfl

theorem adr_is {s a : Int} (hs : s = 0 ∨ s = 1) (h0 : 0 ≤ a) (h1 : a ≤ 4096) : whs (adr s a) = s ∧ whp (adr s a) = a ∧ whb (adr s a) = true :=
  Leads.is (a := adr s a) ⟨hs, h0, by omega, rfl⟩
end Go.Proofs.YtanhhkdoejnpiaaGreat
/-! Of stage 13 -/
namespace Go.Proofs.YtanhhkdoejnpiaaGreat
open Go.ChangeShapes Go.WideShapes Go.ChangeAt Go.RowKit
set_option linter.unusedVariables false
set_option linter.unusedSimpArgs false

theorem mem_splice {L W : List Int} {j : Nat} {x : Int} (h : x ∈ splice L j W) : x ∈ L ∨ x ∈ W := by
  unfold splice at h
  rcases List.mem_append.1 h with h | h
  · exact .inl (List.mem_of_mem_take h)
  · rcases List.mem_append.1 h with h | h
    · exact .inr h
    · exact .inl (List.mem_of_mem_drop h)

/-- A twin can be made. -/
structure Cp (m : Me) (s a l A : Int) : Prop where
  ok : m.ok
  wf : m.wf
  rg : rgt s a l
  hl : l = m.n
  kn : m.kne A = 0
  ov : ovb s A = false
  tw : m.twv A = 0
  fit : m.wn A ≤ l - a
section
variable {m : Me} {s a l A : Int}
theorem Cp.wn (h : Cp m s a l A) : 2 ≤ m.wn A ∧ m.wn A ≤ 18 := by
  have h1 := (kne_inn h.kn).2
  have h2 := atl_16 h.kn
  unfold Me.wn
  omega
theorem kne_whb (h : m.kne A = 0) : whb A = true := (kne_inn h).1.1
theorem ovb_no (hb : whb A = true) (h : ovb s A = false) : whs A ≠ s := fun e => by
  unfold ovb at h
  rw [hb, decide_eq_true e] at h
  cases h
theorem Cp.pl (h : Cp m s a l A) : 0 ≤ a ∧ a + m.wn A ≤ m.n ∧ a ≤ 4096 ∧ whs (adr s a) = s ∧ whp (adr s a) = a ∧ whb (adr s a) = true := by
  obtain ⟨h1, h2, h3, h4⟩ := h.rg
  have hf := h.fit
  have hl := h.hl
  have hw := h.wn
  have := h.ok.2.1
  obtain ⟨e1, e2, e3⟩ := adr_is h1 h2 (by omega)
  exact ⟨h2, by omega, by omega, e1, e2, e3⟩
theorem Cp.mvok (h : Cp m s a l A) : m.mvok A (adr s a) (m.wn A) := by
  obtain ⟨p1, p2, p3, e1, e2, e3⟩ := h.pl
  have hw := h.wn
  have hi := (kne_inn h.kn).1
  refine ⟨by omega, ⟨hi.1, ?_⟩, ⟨e3, ?_⟩⟩
  · have := hi.2
    unfold Me.wn at *
    exact ⟨by omega, by omega⟩
  · rw [e2]
    exact ⟨by omega, by omega⟩
/-- The words that are moved. -/
def Me.ws (m : Me) (A : Int) : List Int := ((m.sp (whs A)).drop (whp A).toNat).take (m.wn A).toNat
theorem Cp.ws (h : Cp m s a l A) : (m.ws A).length = (m.wn A).toNat := by
  have hi := (kne_inn h.kn).1.2
  have hl := Me.len_sp h.ok (whs A)
  have hp := whp_nn A
  unfold Me.ws
  unfold Me.wn at *
  simp
  omega
theorem Cp.mv (h : Cp m s a l A) : m.mv A (adr s a) (m.wn A) = m.put s (splice (m.sp s) a.toNat (m.ws A)) := by
  obtain ⟨p1, p2, p3, e1, e2, e3⟩ := h.pl
  rw [show m.mv A (adr s a) (m.wn A) = _ from if_pos h.mvok, e1, e2]
  rfl
theorem Cp.len (h : Cp m s a l A) : (splice (m.sp s) a.toNat (m.ws A)).length = m.n := by
  obtain ⟨p1, p2, p3, e1, e2, e3⟩ := h.pl
  have hl := Me.len_sp h.ok s
  have hw := h.wn
  rw [length_splice _ _ _ (by rw [h.ws, hl]; omega), hl]
theorem Cp.mvn (h : Cp m s a l A) : (m.mv A (adr s a) (m.wn A)).n = m.n := by rw [h.mv, put_nn]
theorem Cp.mvk (h : Cp m s a l A) : (m.mv A (adr s a) (m.wn A)).ok := by
  rw [h.mv]
  exact Me.ok.put h.ok s h.len
theorem Cp.mvw (h : Cp m s a l A) : (m.mv A (adr s a) (m.wn A)).wf := by
  have hs : ∀ x ∈ splice (m.sp s) a.toNat (m.ws A), U64 x := fun x hx => by
    rcases mem_splice hx with q | q
    · exact h.wf.sp _ x q
    · exact h.wf.sp _ x (List.mem_of_mem_drop (List.mem_of_mem_take q))
  rw [h.mv]
  unfold Me.put
  split
  · exact ⟨h.wf.1, hs⟩
  · exact ⟨hs, h.wf.2⟩
/-- A word is taken. -/
def tkn (s a n q : Int) : Prop := whb q = true ∧ whs q = s ∧ a ≤ whp q ∧ whp q < a + n
theorem Cp.mvl (h : Cp m s a l A) {q : Int} (hq : ¬ tkn s a (m.wn A) q) : (m.mv A (adr s a) (m.wn A)).ld q = m.ld q := by
  obtain ⟨p1, p2, p3, e1, e2, e3⟩ := h.pl
  have hw := h.wn
  by_cases ht : m.there q
  · rw [show (m.mv A (adr s a) (m.wn A)).ld q = _ from if_pos ((there_n h.mvn q).2 ht), show m.ld q = _ from if_pos ht, h.mv]
    by_cases hs : whs q = s
    · have hn : ¬ (a ≤ whp q ∧ whp q < a + m.wn A) := fun k => hq ⟨ht.1, hs, k.1, k.2⟩
      have hl := Me.len_sp h.ok s
      have hp := whp_nn q
      rw [hs, Me.sp_put m h.rg.1]
      unfold List.getD
      rw [getElem?_splice _ _ _ _ (by rw [h.ws, hl]; omega), h.ws]
      by_cases k : (whp q).toNat < a.toNat
      · rw [if_pos k]
      · rw [if_neg k, if_neg (by omega)]
    · rw [Me.sp_put_ne m h.rg.1 (whs_01 q) (fun e => hs e.symm)]
  · rw [show (m.mv A (adr s a) (m.wn A)).ld q = _ from if_neg (fun k => ht ((there_n h.mvn q).1 k)), show m.ld q = _ from if_neg ht]
theorem Cp.off (h : Cp m s a l A) : whs (A + 1) = whs A ∧ whp (A + 1) = whp A + 1 ∧ m.there (A + 1) ∧ 0 ≤ A + 1 ∧ A + 1 ≤ 18446744073709551615 :=
  inn_off h.ok.2.1 (kne_inn h.kn).1 (by omega) (by have := (kne_inn h.kn).2; omega)
theorem Cp.nt (h : Cp m s a l A) : ¬ tkn s a (m.wn A) A ∧ ¬ tkn s a (m.wn A) (A + 1) :=
  ⟨fun k => ovb_no (kne_whb h.kn) h.ov k.2.1, fun k => ovb_no (kne_whb h.kn) h.ov (h.off.1.symm.trans k.2.1)⟩
theorem Cp.mvkn (h : Cp m s a l A) : (m.mv A (adr s a) (m.wn A)).kne A = 0 := (same_kne h.mvn (h.mvl h.nt.1)).trans h.kn
theorem Cp.mvtw (h : Cp m s a l A) : (m.mv A (adr s a) (m.wn A)).ld (A + 1) = 0 := by
  rw [h.mvl h.nt.2, ← show m.twv A = m.ld (A + 1) from if_pos h.kn]
  exact h.tw
theorem Cp.is (h : Cp m s a l A) : m.cpm s a A = (m.mv A (adr s a) (m.wn A)).st (A + 1) (adr s a) := by
  unfold Me.cpm
  rw [show (m.mv A (adr s a) (m.wn A)).joinm A (adr s a) = _ from if_pos h.mvkn]
  exact if_pos ⟨(there_n h.mvn _).2 h.off.2.2.1, h.mvtw⟩
theorem Cp.n (h : Cp m s a l A) : (m.cpm s a A).n = m.n := by rw [h.is, Me.st_n, h.mvn]
theorem Cp.cok (h : Cp m s a l A) : (m.cpm s a A).ok := by
  rw [h.is]
  exact Me.ok.st h.mvk _ _
theorem Cp.cwf (h : Cp m s a l A) : (m.cpm s a A).wf := by
  rw [h.is]
  exact h.mvw.st (adr_u64 h.rg.1 h.pl.1 (by have := h.pl.2.2.1; omega)) _
theorem Cp.ld (h : Cp m s a l A) {q : Int} (hq : ¬ tkn s a (m.wn A) q) (h1 : q ≠ A + 1) : (m.cpm s a A).ld q = m.ld q := by
  rw [h.is, st_other (Ne.symm h1), h.mvl hq]
theorem Cp.ldt (h : Cp m s a l A) : (m.cpm s a A).ld (A + 1) = adr s a := by
  rw [h.is]
  exact st_ld h.mvk ((there_n h.mvn _).2 h.off.2.2.1)
/-- Memory later: words that weren't 0, and aren't over there, are as they were. -/
structure La (s : Int) (m : Me) (a : Int) (m' : Me) (a' : Int) : Prop where
  n : m'.n = m.n
  ok : m'.ok
  wf : m'.wf
  le : a ≤ a'
  hi : a' ≤ m.n
  kp : ∀ q, ovb s q = false → m.ld q ≠ 0 → m'.ld q = m.ld q
theorem La.refl (ok : m.ok) (wf : m.wf) (h : a ≤ m.n) : La s m a m a := ⟨rfl, ok, wf, Int.le_refl _, h, fun _ _ _ => rfl⟩
theorem La.trans {m1 m2 : Me} {a1 a2 : Int} (h : La s m a m1 a1) (k : La s m1 a1 m2 a2) : La s m a m2 a2 :=
  ⟨k.n.trans h.n, k.ok, k.wf, Int.le_trans h.le k.le, by have := k.hi; rw [h.n] at this; exact this, fun q h1 h2 =>
    have e := h.kp q h1 h2
    (k.kp q h1 (by rw [e]; exact h2)).trans e⟩
theorem Cp.la (h : Cp m s a l A) : La s m a (m.cpm s a A) (a + m.wn A) := by
  have hp := h.pl
  have hw := h.wn
  refine ⟨h.n, h.cok, h.cwf, by omega, hp.2.1, fun q h1 h2 => h.ld (fun k => ?_) (fun e => ?_)⟩
  · unfold ovb at h1
    rw [k.1, decide_eq_true k.2.1] at h1
    cases h1
  · have := h.tw
    rw [show m.twv A = m.ld (A + 1) from if_pos h.kn, ← e] at this
    exact h2 this
/-! ### To -/
theorem toa_cp (ok : m.ok) (wf : m.wf) (rg : rgt s a l) (hl : l = m.n) (h1 : m.kne A = 0) (h2 : ovb s A = false) (h3 : m.twv A = 0) (h4 : ¬ l - a < m.wn A) : Cp m s a l A :=
  ⟨ok, wf, rg, hl, h1, h2, h3, by omega⟩
/-- What To answers, case by case. -/
theorem toa_cases (ok : m.ok) (wf : m.wf) (rg : rgt s a l) (hl : l = m.n) :
    (A = 0 ∧ toa m s a l A = ⟨m, a, 0, 0⟩) ∨ (A ≠ 0 ∧ ovb s A = true ∧ m.kne A = 0 ∧ toa m s a l A = ⟨m, a, A, 0⟩)
      ∨ (A ≠ 0 ∧ (toa m s a l A).e ≠ 0 ∧ toa m s a l A = ⟨m, a, 0, (toa m s a l A).e⟩)
      ∨ (A ≠ 0 ∧ ovb s A = false ∧ m.kne A = 0 ∧ m.twv A ≠ 0 ∧ ovb s (m.twv A) = true ∧ toa m s a l A = ⟨m, a, m.twv A, 0⟩)
      ∨ (A ≠ 0 ∧ Cp m s a l A ∧ toa m s a l A = ⟨m.cpm s a A, a + m.wn A, adr s a, 0⟩) := by
  by_cases h0 : A = 0
  · exact .inl ⟨h0, if_pos h0⟩
  refine .inr ?_
  by_cases h1 : m.kne A = 0
  · by_cases h2 : ovb s A = true
    · exact .inl ⟨h0, h2, h1, by unfold toa; rw [if_neg h0, if_neg (by simp [h1]), if_pos h2]⟩
    · have h2' : ovb s A = false := by simpa using h2
      refine .inr ?_
      by_cases h3 : m.twv A = 0
      · by_cases h4 : l - a < m.wn A
        · have e : toa m s a l A = ⟨m, a, 0, 4⟩ := by unfold toa; rw [if_neg h0, if_neg (by simp [h1]), if_neg h2, if_neg (by simp [h3]), if_pos h4]
          exact .inl ⟨h0, by rw [e]; simp, by rw [e]⟩
        · exact .inr (.inr ⟨h0, toa_cp ok wf rg hl h1 h2' h3 h4, by unfold toa; rw [if_neg h0, if_neg (by simp [h1]), if_neg h2, if_neg (by simp [h3]), if_neg h4]⟩)
      · by_cases h5 : ovb s (m.twv A) = true
        · exact .inr (.inl ⟨h0, h2', h1, h3, h5, by unfold toa; rw [if_neg h0, if_neg (by simp [h1]), if_neg h2, if_pos h3, if_pos h5]⟩)
        · have e : toa m s a l A = ⟨m, a, 0, 10⟩ := by unfold toa; rw [if_neg h0, if_neg (by simp [h1]), if_neg h2, if_pos h3, if_neg h5]
          exact .inl ⟨h0, by rw [e]; simp, by rw [e]⟩
  · have e : toa m s a l A = ⟨m, a, 0, m.kne A⟩ := by unfold toa; rw [if_neg h0, if_pos h1]
    exact .inr (.inl ⟨h0, by rw [e]; exact h1, by rw [e]⟩)
theorem twv_u64 (wf : m.wf) (A : Int) : U64 (m.twv A) := by
  unfold Me.twv
  split
  · exact wf.ld _
  · exact u64_0
theorem toa_la (ok : m.ok) (wf : m.wf) (rg : rgt s a l) (hl : l = m.n) : La s m a (toa m s a l A).m (toa m s a l A).a := by
  have hr : La s m a m a := La.refl ok wf (by have := rg.2.2.1; omega)
  rcases toa_cases (A := A) ok wf rg hl with h | h | h | h | h
  · rw [h.2]; exact hr
  · rw [h.2.2.2]; exact hr
  · rw [h.2.2]; exact hr
  · rw [h.2.2.2.2.2]; exact hr
  · rw [h.2.2]; exact h.2.1.la
end

/-! ### Each -/
structure Ea where
  m : Me
  a : Int
  ts : List Int
  e : Int
def eac (s l : Int) : List Int → Me → Int → Ea
  | [], m, a => ⟨m, a, [], 0⟩
  | A :: L, m, a => if (toa m s a l A).e = 0 then ⟨(eac s l L (toa m s a l A).m (toa m s a l A).a).m, (eac s l L (toa m s a l A).m (toa m s a l A).a).a, (toa m s a l A).b :: (eac s l L (toa m s a l A).m (toa m s a l A).a).ts, (eac s l L (toa m s a l A).m (toa m s a l A).a).e⟩ else ⟨m, a, [], (toa m s a l A).e⟩
section
variable {s l : Int}
theorem La.rg {m m1 : Me} {a a1 : Int} (k : La s m a m1 a1) (rg : rgt s a l) (hl : l = m.n) : rgt s a1 l ∧ l = m1.n := by
  have h1 := k.le
  have h2 := k.hi
  have h3 := k.n
  obtain ⟨r1, r2, r3, r4⟩ := rg
  exact ⟨⟨r1, by omega, by omega, r4⟩, by rw [h3]; exact hl⟩
theorem eac_la : ∀ (L : List Int) (m : Me) (a : Int), m.ok → m.wf → rgt s a l → l = m.n → La s m a (eac s l L m a).m (eac s l L m a).a
  | [], m, a, ok, wf, rg, hl => La.refl ok wf (by have := rg.2.2.1; omega)
  | A :: L, m, a, ok, wf, rg, hl => by
    have k := toa_la (A := A) ok wf rg hl
    obtain ⟨rg1, hl1⟩ := k.rg rg hl
    have k2 := eac_la L _ _ k.ok k.wf rg1 hl1
    unfold eac
    split
    · exact k.trans k2
    · exact La.refl ok wf (by have := rg.2.2.1; omega)
theorem eac_len : ∀ (L : List Int) (m : Me) (a : Int), (eac s l L m a).e = 0 → (eac s l L m a).ts.length = L.length
  | [], m, a, _ => rfl
  | A :: L, m, a, h => by
    unfold eac at h ⊢
    split
    · rename_i h1
      rw [if_pos h1] at h
      simp only [List.length_cons]
      rw [eac_len L _ _ h]
    · rename_i h1
      rw [if_neg h1] at h
      exact absurd h h1
end

end Go.Proofs.YtanhhkdoejnpiaaGreat
/-! Of stage 13 -/
namespace Go.Proofs.YtanhhkdoejnpiaaGreat
open Go.ChangeShapes Go.WideShapes Go.ChangeAt Go.RowKit
set_option linter.unusedVariables false
set_option linter.unusedSimpArgs false

end Go.Proofs.YtanhhkdoejnpiaaGreat
/-! Of stage 13 -/
namespace Go.Proofs.YtanhhkdoejnpiaaGreat
open Go.Joins Go.ChangeShapes Go.WideShapes Go.ChangeAt Go.RowKit Go.Deep
set_option linter.unusedVariables false
set_option linter.unusedSimpArgs false

set_option maxRecDepth 100000 in
set_option maxHeartbeats 2000000 in
theorem rover_any (n s a l x y A : Int) (MA MB : Value) (w : World) (hA : U64 A) :
    Calls Tryz.prog 152 #[rov n MA MB s a l x y, .int .u64 A] w fun e w' => e = .returned (.bool (ovb s A)) ∧ Up w w' := by
  have hw := Lib.hid (fun w => rwhere A hA.1 hA.2 w)
  unfold ovb
  generalize whs A = s1 at hw ⊢
  generalize whp A = p1 at hw
  generalize whb A = b1 at hw ⊢
  have U0 : Up w (w.alloc (.cells (roc n MA MB s a l x y) 58)) := (Up.refl w).alloc _
  cases b1
  · go_enter Tryz.func152, Tryz.ntmps152
    go_wp2_with (fail)
    refine (hw.out _).mono ?_
    rintro e w1 ⟨rfl, rfl⟩
    go_wp2
    go_ret
    exact ⟨rfl, U0⟩
  by_cases h : s1 = s
  · have q : (s1 == s) = true := beq_iff_eq.2 h
    rw [decide_eq_true h]
    clear h
    go_enter Tryz.func152, Tryz.ntmps152
    go_wp2_with (fail)
    refine (hw.out _).mono ?_
    rintro e w1 ⟨rfl, rfl⟩
    go_wp2
    go_ret
    exact ⟨rfl, U0⟩
  · have q : (s1 == s) = false := beq_eq_false_iff_ne.2 h
    rw [decide_eq_false h]
    clear h
    go_enter Tryz.func152, Tryz.ntmps152
    go_wp2_with (fail)
    refine (hw.out _).mono ?_
    rintro e w1 ⟨rfl, rfl⟩
    go_wp2
    go_ret
    exact ⟨rfl, U0⟩

section
variable {H : Type} {enc : TypeId × Value → H} {w : World}
end

end Go.Proofs.YtanhhkdoejnpiaaGreat
/-! Of stage 13/parts -/
namespace Go.Proofs.YtanhhkdoejnpiaaGreat
open Go.ChangeShapes Go.WideShapes Go.ChangeAt Go.RowKit
set_option linter.unusedVariables false
set_option linter.unusedSimpArgs false

theorem kne_wdn {m : Me} {A : Int} (h : m.kne A = 0) : m.ate A = 0 ∧ rte (m.att A) (m.atl A) (m.atm A) = 0 ∧ wdn (m.att A) (m.atl A) = m.wn A ∧ 2 ≤ m.wn A ∧ m.wn A ≤ 18 := by
  obtain ⟨h1, h2⟩ := kne_0.1 h
  obtain ⟨e1, e2, e3⟩ := at_of h1
  have h3 := (kne_inn h).2
  have h4 := atl_16 h
  refine ⟨ate_0.2 h1, ?_, ?_, ?_, ?_⟩
  · rw [e1, e2, e3]; exact atok_rte h1
  · unfold wdn Me.wn; rw [if_neg h2]
  · unfold Me.wn; omega
  · unfold Me.wn; omega
section
variable {m : Me} {s a l A : Int}
theorem Cp.tat (h : Cp m s a l A) {j : Int} (h0 : 0 ≤ j) (h1 : j < m.wn A) : adr s a + j = adr s (a + j) ∧ whs (adr s a + j) = s ∧ whp (adr s a + j) = a + j ∧ m.there (adr s a + j) := by
  obtain ⟨p1, p2, p3, e1, e2, e3⟩ := h.pl
  have h16 := h.ok
  obtain ⟨k1, k2, k3, k4⟩ := h16
  have e : adr s a + j = adr s (a + j) := by unfold adr; omega
  obtain ⟨f1, f2, f3⟩ := adr_is (s := s) (a := a + j) h.rg.1 (by omega) (by omega)
  rw [e]
  exact ⟨rfl, f1, f2, f3, by rw [f2]; omega⟩
theorem Cp.aat (h : Cp m s a l A) {j : Int} (h0 : 0 ≤ j) (h1 : j < m.wn A) : whs (A + j) = whs A ∧ whp (A + j) = whp A + j ∧ m.there (A + j) ∧ 0 ≤ A + j ∧ A + j ≤ 18446744073709551615 :=
  inn_off h.ok.2.1 (kne_inn h.kn).1 h0 (by unfold Me.wn at h1; omega)
/-- The words that were moved. -/
theorem Cp.mvld (h : Cp m s a l A) {j : Int} (h0 : 0 ≤ j) (h1 : j < m.wn A) : (m.mv A (adr s a) (m.wn A)).ld (adr s a + j) = m.ld (A + j) := by
  obtain ⟨p1, p2, p3, e1, e2, e3⟩ := h.pl
  obtain ⟨e, f1, f2, ht⟩ := h.tat h0 h1
  obtain ⟨g1, g2, g3, g4, g5⟩ := h.aat h0 h1
  have hl := Me.len_sp h.ok s
  have hla := Me.len_sp h.ok (whs A)
  have hpA := whp_nn A
  have hin := (kne_inn h.kn).1.2
  have hw := h.wn
  have hws := h.ws
  have ht2 := ht.2
  rw [f2] at ht2
  rw [show (m.mv A (adr s a) (m.wn A)).ld (adr s a + j) = _ from if_pos ((there_n h.mvn _).2 ht), show m.ld (A + j) = _ from if_pos g3, h.mv, f1, f2, Me.sp_put m h.rg.1, g1, g2]
  unfold List.getD
  rw [getElem?_splice _ _ _ _ (by rw [h.ws, hl]; omega), h.ws, if_neg (by omega), if_pos (by omega)]
  unfold Me.ws
  rw [List.getElem?_take_of_lt (by omega), List.getElem?_drop, show (whp A).toNat + ((a + j).toNat - a.toNat) = (whp A + j).toNat from by omega]
theorem Cp.tne (h : Cp m s a l A) {j : Int} (h0 : 0 ≤ j) (h1 : j < m.wn A) : A + 1 ≠ adr s a + j := fun e => by
  have h2 := (h.tat h0 h1).2.1
  rw [← e, h.off.1] at h2
  exact ovb_no (kne_whb h.kn) h.ov h2
theorem Cp.ldn (h : Cp m s a l A) {j : Int} (h0 : 0 ≤ j) (h1 : j < m.wn A) : (m.cpm s a A).ld (adr s a + j) = m.ld (A + j) := by
  rw [h.is, st_other (h.tne h0 h1), h.mvld h0 h1]
/-- The twin's word of a twin is 0 already. -/
theorem Cp.st0 (h : Cp m s a l A) : (m.mv A (adr s a) (m.wn A)).st (adr s a + 1) 0 = m.mv A (adr s a) (m.wn A) := by
  have hw := h.wn
  refine st_same h.mvk ((there_n h.mvn _).2 (h.tat (by omega) (by omega)).2.2.2) ?_
  rw [h.mvld (by omega) (by omega), ← show m.twv A = m.ld (A + 1) from if_pos h.kn]
  exact h.tw
theorem Cp.tw2 (h : Cp m s a l A) : 0 ≤ adr s a + 1 ∧ adr s a + 1 ≤ 18446744073709551615 ∧ m.there (adr s a + 1) := by
  have hw := h.wn
  obtain ⟨p1, p2, p3, e1, e2, e3⟩ := h.pl
  refine ⟨?_, ?_, (h.tat (j := 1) (by omega) (by omega)).2.2.2⟩
  · unfold adr; rcases h.rg.1 with q | q <;> rw [q] <;> omega
  · unfold adr; rcases h.rg.1 with q | q <;> rw [q] <;> omega

/-- An object and its twin. -/
structure Nw (K : Me) (A T : Int) : Prop where
  tw : K.twv A = T
  kn : K.kne A = 0
  at_ : K.ate T = 0
  t : K.att T = K.att A
  l : K.atl T = K.atl A
  m : K.atm T = K.atm A
  f : ∀ i : Int, 0 ≤ i → i < K.atl A → K.getv T i = K.getv A i
end
end Go.Proofs.YtanhhkdoejnpiaaGreat
