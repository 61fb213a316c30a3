/- An object's twin (object.Twin, Join): contracts of the closures and of the calls. -/
import Derived.Test.YtgcpkgogjcgfbaaOb4
namespace Go.Proofs.Ytgcpkgogjcgfbaa
open Go.ChangeShapes Go.WideShapes Go.ChangeAt Go.RowKit
set_option linter.unusedVariables false
set_option linter.unusedSimpArgs false

/-- The word of an object's twin is there. -/
theorem tw_off {m : Me} {a : Int} (hn : m.n ≤ 4096) (h : m.kne a = 0) : m.there (a + 1) ∧ 0 ≤ a + 1 ∧ a + 1 ≤ 18446744073709551615 := by
  obtain ⟨h3, h4⟩ := kne_inn h
  exact (inn_off (j := 1) hn h3 (by omega) (by omega)).2.2
def Me.twv (m : Me) (a : Int) : Int := if m.kne a = 0 then m.ld (a + 1) else 0
def Me.joinm (m : Me) (a b : Int) : Me := if m.kne a = 0 then m.sw (a + 1) 0 b else m
def Me.joinb (m : Me) (a : Int) : Bool := if m.kne a = 0 then m.swb (a + 1) 0 else false

set_option maxHeartbeats 1000000 in
theorem twin_c1 (m : Me) (a : Int) (P Q : Addr) (c d Bm Ba : Nat) (w : World) (ha : U64 a) (hwf : m.wf) (hM : Box w Bm m P Q c d) (hA : Blk w Ba 44 #[.int .u64 a]) :
    Calls Try.prog 61 #[bx Bm, bx Ba] w (fun e w' => e = .returned (.int .i64 (m.kne a)) ∧ Up w w') := by
  have hl := Lib.hid (known_any m a P Q c d w hM.2 ha hwf)
  have R0 := (hM.1).cell
  have R1 := (hA).cell
  go_enter Try.func61, Try.ntmps61
  go_wp2_with (fail)
  refine hl.out.mono ?_
  rintro e w1 ⟨rfl, h1⟩
  go_wp2
  go_ret
  exact ⟨rfl, h1⟩

set_option maxHeartbeats 1000000 in
theorem join_c1 (m : Me) (a : Int) (P Q : Addr) (c d Bm Ba : Nat) (w : World) (ha : U64 a) (hwf : m.wf) (hM : Box w Bm m P Q c d) (hA : Blk w Ba 44 #[.int .u64 a]) :
    Calls Try.prog 105 #[bx Bm, bx Ba] w (fun e w' => e = .returned (.int .i64 (m.kne a)) ∧ Up w w') := by
  have hl := Lib.hid (known_any m a P Q c d w hM.2 ha hwf)
  have R0 := (hM.1).cell
  have R1 := (hA).cell
  go_enter Try.func105, Try.ntmps105
  go_wp2_with (fail)
  refine hl.out.mono ?_
  rintro e w1 ⟨rfl, h1⟩
  go_wp2
  go_ret
  exact ⟨rfl, h1⟩

set_option maxHeartbeats 1000000 in
theorem twin_c2 (m : Me) (a x : Int) (P Q : Addr) (c d Bm Ba Bv : Nat) (w : World) (ha : U64 a) (h2 : a + 1 ≤ 18446744073709551615) (n1 : Bm ≠ Bv) (n2 : Ba ≠ Bv)
    (hM : Box w Bm m P Q c d) (hA : Blk w Ba 44 #[.int .u64 a]) (hV : Blk w Bv 44 #[.int .u64 x]) :
    Calls Try.prog 62 #[bx Bm, bx Ba, bx Bv] w (CellPost Bv 44 #[.int .u64 (m.ld (a + 1))] (m.lde (a + 1)) w) := by
  have hs := Lib.hid (fun (w : World) (g : Nat) (hb : Blk w g 3 #[.int .i64 1]) => sum_1 a 1 g w ha.1 (by decide) h2 hb)
  have hl := Lib.hid (fun (W : World) (h : Up w.drew W) => load_any m (a + 1) P Q c d W ((hM.2.up (Up.refl w).drew).up h) ⟨by have := ha.1; omega, h2⟩)
  have M0 := hM.1.drew
  have A0 := hA.drew
  have V0 := hV.drew
  have U0 := Up.refl w.drew
  have UW := (Up.refl w).drew
  have S1 : Blk (w.alloc (.cells #[.int .i64 1] 3)).drew w.heap.size 3 #[.int .i64 1] := (Blk.new w 3 #[.int .i64 1]).drew
  have U1 : Up w.drew (w.alloc (.cells #[.int .i64 1] 3)).drew := (Up.refl w.drew).alloc (.cells #[.int .i64 1] 3)
  generalize a + 1 = b at hs hl ⊢
  clear hM hA hV ha h2
  go_enter Try.func62, Try.ntmps62
  go_wp2_with (fail)
  go_region_held3 (fun w' => (∀ i, w'.cell? ⟨Bm, i, none⟩ = (#[.int .i64 m.n, .slice (some P) m.n c, .slice (some Q) m.n d] : Array Value)[i]?) ∧ (∀ j, w'.cell? ⟨Ba, j, none⟩ = (#[.int .u64 a] : Array Value)[j]?))
    (first
      | exact ⟨fun i => (Blk.up M0 (by assumption)).cell i, fun i => (Blk.up A0 (by assumption)).cell i⟩
      | exact ⟨fun i => ((Blk.up M0 (by assumption)).far n1 _).cell i, fun i => ((Blk.up A0 (by assumption)).far n2 _).cell i⟩)
    (first
      | (go_at_call 63; ((with_reducible refine (hs.out _ _ S1).mono ?_); rintro e wz ⟨rfl, rfl⟩))
      | (go_at_call 57; ((with_reducible refine (hl.out _ (by assumption)).mono ?_); rintro e wz ⟨rfl, hz⟩; have UZ := Up.trans (a := w.drew) (by assumption) hz; have VZ := V0.up UZ; have VZc := VZ.cell; have VZf := VZ.frozen; have VZl := VZ.lt)))
  all_goals
    go_wp2
    go_ret
    exact ⟨rfl, (Kp.of_up (UW.trans UZ)).set_ (by simp) _, VZ.set_ 0 _⟩

/-- What the second closure of Join leaves. -/
def JoinPost (Bo Bj : Nat) (m : Me) (b : Bool) (x : Int) (w : World) (e : Ending) (w' : World) : Prop := e = .returned (.int .i64 x) ∧ Kp [Bo, Bj] w w' ∧ Blk w' Bj 4 #[.bool b] ∧ ∃ P Q c d, Box w' Bo m P Q c d
set_option maxHeartbeats 2000000 in
theorem join_c2 (m : Me) (a b : Int) (x0 x1 x2 : Value) (y : Bool) (P Q : Addr) (c d Bm Ba Bb Bo Bj : Nat) (w : World) (ha : U64 a) (h2 : a + 1 ≤ 18446744073709551615) (n1 : Bm < Ba) (n2 : Ba < Bb) (n3 : Bb < Bo) (n4 : Bo < Bj)
    (hM : Box w Bm m P Q c d) (hA : Blk w Ba 44 #[.int .u64 a]) (hB : Blk w Bb 44 #[.int .u64 b]) (hO : Blk w Bo 25 #[x0, x1, x2]) (hJ : Blk w Bj 4 #[.bool y]) :
    Calls Try.prog 106 #[bx Bm, bx Ba, bx Bb, bx Bo, bx Bj] w (JoinPost Bo Bj (m.sw (a + 1) 0 b) (m.swb (a + 1) 0) (m.lde (a + 1)) w) := by
  have hs := Lib.hid (fun (w : World) (g : Nat) (hb : Blk w g 3 #[.int .i64 1]) => sum_1 a 1 g w ha.1 (by decide) h2 hb)
  have hl := Lib.hid (fun (W : World) (h : Up w.drew W) => swap_any m (a + 1) 0 b P Q c d W ((hM.2.up (Up.refl w).drew).up h) ⟨by have := ha.1; omega, h2⟩)
  have M0 := hM.1.drew
  have A0 := hA.drew
  have B0 := hB.drew
  have O0 := hO.drew
  have J0 := hJ.drew
  have U0 := Up.refl w.drew
  have UW := (Up.refl w).drew
  have S1 : Blk (w.alloc (.cells #[.int .i64 1] 3)).drew w.heap.size 3 #[.int .i64 1] := (Blk.new w 3 #[.int .i64 1]).drew
  have U1 : Up w.drew (w.alloc (.cells #[.int .i64 1] 3)).drew := (Up.refl w.drew).alloc (.cells #[.int .i64 1] 3)
  generalize m.sw (a + 1) 0 b = K at hl ⊢
  generalize m.swb (a + 1) 0 = s at hl ⊢
  generalize a + 1 = r at hs hl ⊢
  have q1 : Bm ≠ Bo := by omega
  have q2 : Ba ≠ Bo := by omega
  have q3 : Bb ≠ Bo := by omega
  have r1 : Bm ≠ Bj := by omega
  have r2 : Ba ≠ Bj := by omega
  have r3 : Bb ≠ Bj := by omega
  have t1 : Bo ≠ Bj := by omega
  have t2 : Bj ≠ Bo := by omega
  clear hM hA hB hO hJ ha h2 n1 n2 n3 n4
  go_enter Try.func106, Try.ntmps106
  go_wp2_with (fail)
  go_region_held3 (fun w' => (∀ i, w'.cell? ⟨Bm, i, none⟩ = (#[.int .i64 m.n, .slice (some P) m.n c, .slice (some Q) m.n d] : Array Value)[i]?) ∧ (∀ j, w'.cell? ⟨Ba, j, none⟩ = (#[.int .u64 a] : Array Value)[j]?) ∧ (∀ j, w'.cell? ⟨Bb, j, none⟩ = (#[.int .u64 b] : Array Value)[j]?))
    (first
      | exact ⟨fun i => (Blk.up M0 (by assumption)).cell i, fun i => (Blk.up A0 (by assumption)).cell i, fun i => (Blk.up B0 (by assumption)).cell i⟩
      | exact ⟨fun i => ((((Blk.up M0 (by assumption)).far q1 _).far q1 _).far q1 _).cell i, fun i => ((((Blk.up A0 (by assumption)).far q2 _).far q2 _).far q2 _).cell i, fun i => ((((Blk.up B0 (by assumption)).far q3 _).far q3 _).far q3 _).cell i⟩
      | exact ⟨fun i => ((Blk.up M0 (by assumption)).far r1 _).cell i, fun i => ((Blk.up A0 (by assumption)).far r2 _).cell i, fun i => ((Blk.up B0 (by assumption)).far r3 _).cell i⟩
      | exact ⟨fun i => (((((Blk.up M0 (by assumption)).far q1 _).far q1 _).far q1 _).far r1 _).cell i, fun i => (((((Blk.up A0 (by assumption)).far q2 _).far q2 _).far q2 _).far r2 _).cell i, fun i => (((((Blk.up B0 (by assumption)).far q3 _).far q3 _).far q3 _).far r3 _).cell i⟩
      | exact ⟨fun i => (((((Blk.up M0 (by assumption)).far r1 _).far q1 _).far q1 _).far q1 _).cell i, fun i => (((((Blk.up A0 (by assumption)).far r2 _).far q2 _).far q2 _).far q2 _).cell i, fun i => (((((Blk.up B0 (by assumption)).far r3 _).far q3 _).far q3 _).far q3 _).cell i⟩)
    (first
      | (go_at_call 63; ((with_reducible refine (hs.out _ _ S1).mono ?_); rintro e wz ⟨rfl, rfl⟩))
      | (go_at_call 107; ((with_reducible refine (hl.out _ (by assumption)).mono ?_); rintro e wz ⟨P', Q', c', d', rfl, sz, hz⟩; have UZ := Up.trans (a := w.drew) (by assumption) hz; have OZ := O0.up UZ; have OZc := OZ.cell; have OZf := OZ.frozen; have OZl := OZ.lt; have JZ := J0.up UZ; have JZc := JZ.cell; have JZf := JZ.frozen; have JZl := JZ.lt)))
  all_goals
    go_wp2
    go_ret
    exact ⟨rfl, ((Kp.of_up (UW.trans UZ)).set3 (by simp) _ _ _).set_ (by simp) _, (((JZ.far t2 _).far t2 _).far t2 _).set_ 0 _, P', Q', c', d', (OZ.set3 _ _ _).far t1 _, (sz.far3 OZ _ _ _).far (((JZ.far t2 _).far t2 _).far t2 _) (by simp) _⟩

/-- The same, where it is joined: the memory is new. -/
def JoinPostF (Bo Bj : Nat) (m : Me) (b : Bool) (x : Int) (w : World) (e : Ending) (w' : World) : Prop := e = .returned (.int .i64 x) ∧ Kp [Bo, Bj] w w' ∧ Blk w' Bj 4 #[.bool b] ∧ ∃ P Q c d, Box w' Bo m P Q c d ∧ Fr w P Q
set_option maxHeartbeats 2000000 in
theorem joinf_c2 (m : Me) (a b : Int) (x0 x1 x2 : Value) (y : Bool) (P Q : Addr) (c d Bm Ba Bb Bo Bj : Nat) (w : World) (ha : U64 a) (ht : m.there (a + 1)) (hz : m.ld (a + 1) = 0) (h2 : a + 1 ≤ 18446744073709551615) (n1 : Bm < Ba) (n2 : Ba < Bb) (n3 : Bb < Bo) (n4 : Bo < Bj)
    (hM : Box w Bm m P Q c d) (hA : Blk w Ba 44 #[.int .u64 a]) (hB : Blk w Bb 44 #[.int .u64 b]) (hO : Blk w Bo 25 #[x0, x1, x2]) (hJ : Blk w Bj 4 #[.bool y]) :
    Calls Try.prog 106 #[bx Bm, bx Ba, bx Bb, bx Bo, bx Bj] w (JoinPostF Bo Bj (m.st (a + 1) b) true 0 w) := by
  have hs := Lib.hid (fun (w : World) (g : Nat) (hb : Blk w g 3 #[.int .i64 1]) => sum_1 a 1 g w ha.1 (by decide) h2 hb)
  have hl := Lib.hid (fun (W : World) (h : Up w.drew W) => swap_ok m (a + 1) 0 b P Q c d W ((hM.2.up (Up.refl w).drew).up h) ⟨by have := ha.1; omega, h2⟩ ht hz)
  have M0 := hM.1.drew
  have A0 := hA.drew
  have B0 := hB.drew
  have O0 := hO.drew
  have J0 := hJ.drew
  have U0 := Up.refl w.drew
  have UW := (Up.refl w).drew
  have S1 : Blk (w.alloc (.cells #[.int .i64 1] 3)).drew w.heap.size 3 #[.int .i64 1] := (Blk.new w 3 #[.int .i64 1]).drew
  have U1 : Up w.drew (w.alloc (.cells #[.int .i64 1] 3)).drew := (Up.refl w.drew).alloc (.cells #[.int .i64 1] 3)
  generalize m.st (a + 1) b = K at hl ⊢
  generalize a + 1 = r at hs hl ⊢
  have q1 : Bm ≠ Bo := by omega
  have q2 : Ba ≠ Bo := by omega
  have q3 : Bb ≠ Bo := by omega
  have r1 : Bm ≠ Bj := by omega
  have r2 : Ba ≠ Bj := by omega
  have r3 : Bb ≠ Bj := by omega
  have t1 : Bo ≠ Bj := by omega
  have t2 : Bj ≠ Bo := by omega
  clear hM hA hB hO hJ ha h2 ht hz n1 n2 n3 n4
  go_enter Try.func106, Try.ntmps106
  go_wp2_with (fail)
  go_region_held3 (fun w' => (∀ i, w'.cell? ⟨Bm, i, none⟩ = (#[.int .i64 m.n, .slice (some P) m.n c, .slice (some Q) m.n d] : Array Value)[i]?) ∧ (∀ j, w'.cell? ⟨Ba, j, none⟩ = (#[.int .u64 a] : Array Value)[j]?) ∧ (∀ j, w'.cell? ⟨Bb, j, none⟩ = (#[.int .u64 b] : Array Value)[j]?))
    (first
      | exact ⟨fun i => (Blk.up M0 (by assumption)).cell i, fun i => (Blk.up A0 (by assumption)).cell i, fun i => (Blk.up B0 (by assumption)).cell i⟩
      | exact ⟨fun i => ((((Blk.up M0 (by assumption)).far q1 _).far q1 _).far q1 _).cell i, fun i => ((((Blk.up A0 (by assumption)).far q2 _).far q2 _).far q2 _).cell i, fun i => ((((Blk.up B0 (by assumption)).far q3 _).far q3 _).far q3 _).cell i⟩
      | exact ⟨fun i => ((Blk.up M0 (by assumption)).far r1 _).cell i, fun i => ((Blk.up A0 (by assumption)).far r2 _).cell i, fun i => ((Blk.up B0 (by assumption)).far r3 _).cell i⟩
      | exact ⟨fun i => (((((Blk.up M0 (by assumption)).far q1 _).far q1 _).far q1 _).far r1 _).cell i, fun i => (((((Blk.up A0 (by assumption)).far q2 _).far q2 _).far q2 _).far r2 _).cell i, fun i => (((((Blk.up B0 (by assumption)).far q3 _).far q3 _).far q3 _).far r3 _).cell i⟩
      | exact ⟨fun i => (((((Blk.up M0 (by assumption)).far r1 _).far q1 _).far q1 _).far q1 _).cell i, fun i => (((((Blk.up A0 (by assumption)).far r2 _).far q2 _).far q2 _).far q2 _).cell i, fun i => (((((Blk.up B0 (by assumption)).far r3 _).far q3 _).far q3 _).far q3 _).cell i⟩)
    (first
      | (go_at_call 63; ((with_reducible refine (hs.out _ _ S1).mono ?_); rintro e wz ⟨rfl, rfl⟩))
      | (go_at_call 107; ((with_reducible refine (hl.out _ (by assumption)).mono ?_); rintro e wz ⟨P', Q', c', d', rfl, sz, hz, hF⟩; have UZ := Up.trans (a := w.drew) (by assumption) hz; have hF2 := Fr.up (a := w.drew) hF (Below.size (show Up w.drew _ by assumption)); have OZ := O0.up UZ; have OZc := OZ.cell; have OZf := OZ.frozen; have OZl := OZ.lt; have JZ := J0.up UZ; have JZc := JZ.cell; have JZf := JZ.frozen; have JZl := JZ.lt)))
  all_goals
    go_wp2
    go_ret
    exact ⟨rfl, ((Kp.of_up (UW.trans UZ)).set3 (by simp) _ _ _).set_ (by simp) _, (((JZ.far t2 _).far t2 _).far t2 _).set_ 0 _, P', Q', c', d', ⟨(OZ.set3 _ _ _).far t1 _, (sz.far3 OZ _ _ _).far (((JZ.far t2 _).far t2 _).far t2 _) (by simp) _⟩, hF2⟩

/-- What the row of Twin comes to. -/
def TwPhi (m : Me) (a : Int) (Bv : Nat) (x : Int) (w' : World) : Prop := x = m.kne a ∧ Blk w' Bv 44 #[.int .u64 (m.twv a)]
theorem twin_run (m : Me) (a : Int) (P Q : Addr) (c d Bm Ba Bv : Nat) (w : World) (ha : U64 a) (hwf : m.wf) (h1 : Bm < Ba) (h2 : Ba < Bv)
    (hM : Box w Bm m P Q c d) (hA : Blk w Ba 44 #[.int .u64 a]) (hV : Blk w Bv 44 #[.int .u64 0]) :
    Run [Bv] (TwPhi m a Bv) [(61, #[bx Bm, bx Ba]), (62, #[bx Bm, bx Ba, bx Bv])] w := by
  refine ⟨Try.call61, fun w0 u0 => ?_⟩
  refine (twin_c1 m a P Q c d Bm Ba w0 ha hwf (hM.up u0) (hA.up u0)).mono ?_
  rintro e w1 ⟨rfl, u1⟩
  refine ⟨_, rfl, .of_up u1, fun hx w2 u2 => ⟨rfl, ?_⟩, fun hx => ?_⟩
  · rw [show m.twv a = 0 from if_neg hx]
    exact ((hV.up u0).up u1).up u2
  obtain ⟨ht, b0, b1⟩ := tw_off hM.2.1.2.1 hx
  refine ⟨Try.call62, fun w2 u2 => ?_⟩
  refine (twin_c2 m a 0 P Q c d Bm Ba Bv w2 ha b1 (by omega) (by omega) (((hM.up u0).up u1).up u2) (((hA.up u0).up u1).up u2) (((hV.up u0).up u1).up u2)).mono ?_
  rintro e w3 ⟨rfl, k3, V3⟩
  have hz : m.lde (a + 1) = 0 := if_pos ht
  refine ⟨_, rfl, k3, fun hq => absurd hz hq, fun _ w4 u4 => ⟨hx.symm, ?_⟩⟩
  rw [show m.twv a = _ from if_pos hx]
  exact V3.up u4

set_option maxHeartbeats 2000000 in
theorem twin_any (m : Me) (a : Int) (P Q : Addr) (c d : Nat) (w : World) (hm : Sits w m P Q c d) (ha : U64 a) (hwf : m.wf) :
    Calls Try.prog 32 #[.agg #[.int .i64 m.n, .slice (some P) m.n c, .slice (some Q) m.n d], .int .u64 a] w fun e w' => e = .returned (.tuple #[.int .u64 (m.twv a), .int .i64 (m.kne a)]) ∧ Up w w' := by
  have HR := Lib.hid (twin_run m a P Q c d)
  have HM := Lib.hid hm
  have HW := Lib.hid hwf
  have HA := Lib.hid ha
  clear hm hwf ha
  go_enter Try.func32, Try.ntmps32
  go_wp2_with (fail)
  refine calls_at (fun Wz0 hWz0 => ?_)
  have M0 : Blk Wz0 (w.heap.size) 25 #[.int .i64 m.n, .slice (some P) m.n c, .slice (some Q) m.n d] := by rw [hWz0]; exact ((((Blk.new' _ (by simp) _ _).alloc _).alloc _).alloc _)
  have A0 : Blk Wz0 (w.heap.size + 1) 44 #[.int .u64 a] := by rw [hWz0]; exact (((Blk.new' _ (by simp) _ _).alloc _).alloc _)
  have V0 : Blk Wz0 (w.heap.size + 1 + 1) 44 #[.int .u64 0] := by rw [hWz0]; exact ((Blk.new' _ (by simp) _ _).alloc _)
  have G0 : Blk Wz0 (w.heap.size + 1 + 1 + 1) 100 (List.map fnv [(61, #[bx (w.heap.size), bx (w.heap.size + 1)]), (62, #[bx (w.heap.size), bx (w.heap.size + 1), bx (w.heap.size + 1 + 1)])]).toArray := by rw [hWz0]; exact Blk.new' _ (by simp) _ _
  have U0 : Up w Wz0 := by rw [hWz0]; exact (((((Up.refl w).alloc _).alloc _).alloc _).alloc _)
  clear hWz0
  refine (do_any [(w.heap.size + 1 + 1)] (TwPhi m a (w.heap.size + 1 + 1)) _ (w.heap.size + 1 + 1 + 1) Wz0 (by simp) (by simp <;> omega) G0 (HR.out _ _ _ _ HA.out HW.out (by omega) (by omega) ⟨M0, HM.out.up U0⟩ A0 V0)).mono ?_
  clear G0 M0 A0 V0
  rintro e w1 ⟨x, rfl, k1, hx, V1⟩
  have HX := Lib.hid hx
  have U1 := U0.kp k1 (by simp; omega)
  clear U0 hx
  have V1c := V1.cell
  go_wp2
  refine bodyPost_ret (v := .tuple #[.int .u64 (m.twv a), .int .i64 x]) (by simp [results, Try.results32, go_sem]) rfl ⟨by rw [← HX.out], U1⟩

/-- What the row of Join comes to. -/
def JnPhi (m : Me) (a b : Int) (Bo Bj : Nat) (x : Int) (w' : World) : Prop := x = m.kne a ∧ Blk w' Bj 4 #[.bool (m.joinb a)] ∧ ∃ P Q c d, Box w' Bo (m.joinm a b) P Q c d
theorem join_run (m : Me) (a b : Int) (P Q : Addr) (c d Bm Ba Bb Bo Bj : Nat) (w : World) (ha : U64 a) (hwf : m.wf) (h1 : Bm < Ba) (h2 : Ba < Bb) (h3 : Bb < Bo) (h4 : Bo < Bj)
    (hM : Box w Bm m P Q c d) (hA : Blk w Ba 44 #[.int .u64 a]) (hB : Blk w Bb 44 #[.int .u64 b]) (hO : Box w Bo m P Q c d) (hJ : Blk w Bj 4 #[.bool false]) :
    Run [Bo, Bj] (JnPhi m a b Bo Bj) [(105, #[bx Bm, bx Ba]), (106, #[bx Bm, bx Ba, bx Bb, bx Bo, bx Bj])] w := by
  refine ⟨Try.call105, fun w0 u0 => ?_⟩
  refine (join_c1 m a P Q c d Bm Ba w0 ha hwf (hM.up u0) (hA.up u0)).mono ?_
  rintro e w1 ⟨rfl, u1⟩
  refine ⟨_, rfl, .of_up u1, fun hx w2 u2 => ⟨rfl, ?_, P, Q, c, d, ?_⟩, fun hx => ?_⟩
  · rw [show m.joinb a = false from if_neg hx]
    exact ((hJ.up u0).up u1).up u2
  · rw [show m.joinm a b = m from if_neg hx]
    exact ((hO.up u0).up u1).up u2
  obtain ⟨ht, b0, b1⟩ := tw_off hM.2.1.2.1 hx
  refine ⟨Try.call106, fun w2 u2 => ?_⟩
  refine (join_c2 m a b _ _ _ false P Q c d Bm Ba Bb Bo Bj w2 ha b1 h1 h2 h3 h4 (((hM.up u0).up u1).up u2) (((hA.up u0).up u1).up u2) (((hB.up u0).up u1).up u2) (((hO.1.up u0).up u1).up u2) (((hJ.up u0).up u1).up u2)).mono ?_
  rintro e w3 ⟨rfl, k3, J3, P', Q', c', d', O3⟩
  have hz : m.lde (a + 1) = 0 := if_pos ht
  refine ⟨_, rfl, k3, fun hq => absurd hz hq, fun _ w4 u4 => ⟨hx.symm, ?_, P', Q', c', d', ?_⟩⟩
  · rw [show m.joinb a = _ from if_pos hx]
    exact J3.up u4
  · rw [show m.joinm a b = _ from if_pos hx]
    exact O3.up u4

set_option maxHeartbeats 2000000 in
theorem join_any (m : Me) (a b : Int) (P Q : Addr) (c d : Nat) (w : World) (hm : Sits w m P Q c d) (ha : U64 a) (hwf : m.wf) :
    Calls Try.prog 93 #[.agg #[.int .i64 m.n, .slice (some P) m.n c, .slice (some Q) m.n d], .int .u64 a, .int .u64 b] w (Gives2 w (m.joinm a b) (.bool (m.joinb a)) (.int .i64 (m.kne a))) := by
  have HR := Lib.hid (join_run m a b P Q c d)
  have HM := Lib.hid hm
  have HW := Lib.hid hwf
  have HA := Lib.hid ha
  generalize hK : m.joinm a b = K
  have HK := Lib.hid hK
  clear hm hwf ha hK
  go_enter Try.func93, Try.ntmps93
  go_wp2_with (fail)
  refine calls_at (fun Wz0 hWz0 => ?_)
  have M0 : Blk Wz0 (w.heap.size) 25 #[.int .i64 m.n, .slice (some P) m.n c, .slice (some Q) m.n d] := by rw [hWz0]; exact (((((((Blk.new' _ (by simp) _ _).alloc _).alloc _).alloc _).alloc _).alloc _).alloc _)
  have A0 : Blk Wz0 (w.heap.size + 1) 44 #[.int .u64 a] := by rw [hWz0]; exact ((((((Blk.new' _ (by simp) _ _).alloc _).alloc _).alloc _).alloc _).alloc _)
  have B0 : Blk Wz0 (w.heap.size + 1 + 1) 44 #[.int .u64 b] := by rw [hWz0]; exact (((((Blk.new' _ (by simp) _ _).alloc _).alloc _).alloc _).alloc _)
  have R0 : Blk Wz0 (w.heap.size + 1 + 1 + 1) 25 #[.int .i64 0, .slice none 0 0, .slice none 0 0] := by rw [hWz0]; exact ((((Blk.new' _ (by simp) _ _).alloc _).alloc _).alloc _)
  have O0 : Blk Wz0 (w.heap.size + 1 + 1 + 1 + 1) 25 #[.int .i64 m.n, .slice (some P) m.n c, .slice (some Q) m.n d] := by rw [hWz0]; exact (((Blk.new' _ (by simp) _ _).alloc _).alloc _)
  have J0 : Blk Wz0 (w.heap.size + 1 + 1 + 1 + 1 + 1) 4 #[.bool false] := by rw [hWz0]; exact ((Blk.new' _ (by simp) _ _).alloc _)
  have G0 : Blk Wz0 (w.heap.size + 1 + 1 + 1 + 1 + 1 + 1) 100 (List.map fnv [(105, #[bx (w.heap.size), bx (w.heap.size + 1)]), (106, #[bx (w.heap.size), bx (w.heap.size + 1), bx (w.heap.size + 1 + 1), bx (w.heap.size + 1 + 1 + 1 + 1), bx (w.heap.size + 1 + 1 + 1 + 1 + 1)])]).toArray := by rw [hWz0]; exact Blk.new' _ (by simp) _ _
  have U0 : Up w Wz0 := by rw [hWz0]; exact ((((((((Up.refl w).alloc _).alloc _).alloc _).alloc _).alloc _).alloc _).alloc _)
  clear hWz0
  refine (do_any [(w.heap.size + 1 + 1 + 1 + 1), (w.heap.size + 1 + 1 + 1 + 1 + 1)] (JnPhi m a b (w.heap.size + 1 + 1 + 1 + 1) (w.heap.size + 1 + 1 + 1 + 1 + 1)) _ (w.heap.size + 1 + 1 + 1 + 1 + 1 + 1) Wz0 (by simp) (by simp <;> omega) G0 (HR.out _ _ _ _ _ _ HA.out HW.out (by omega) (by omega) (by omega) (by omega) ⟨M0, HM.out.up U0⟩ A0 B0 ⟨O0, HM.out.up U0⟩ J0)).mono ?_
  clear G0 M0 A0 B0 O0 J0
  rintro e w1 ⟨x, rfl, k1, hx, J1, P', Q', c', d', hO⟩
  rw [HK.out] at hO
  obtain ⟨O1, S1⟩ := hO
  have HX := Lib.hid hx
  have R1 := R0.kp k1 (by simp <;> omega)
  have U1 := U0.kp k1 (by simp; omega)
  clear R0 U0 hx
  have R1c := R1.cell
  have R1f := R1.frozen
  have R1l := R1.lt
  have O1c := O1.cell
  have J1c := J1.cell
  go_wp2
  go_region
  all_goals
    go_wp2
    refine bodyPost_ret (v := .tuple #[.agg #[.int .i64 K.n, .slice (some P') K.n c', .slice (some Q') K.n d'], .bool (m.joinb a), .int .i64 x]) (by simp [results, Try.results93, go_sem, R1c, R1l]) rfl ⟨P', Q', c', d', by rw [← HX.out], ?_, ?_⟩
    · exact (S1.up (Up.refl w1).drew).far3 R1.drew _ _ _
    · exact U1.drew.set3 (by omega) _ _ _

/-- The same, where it is joined. -/
def JnPhiF (w : World) (m : Me) (a b : Int) (Bo Bj : Nat) (x : Int) (w' : World) : Prop := x = 0 ∧ Blk w' Bj 4 #[.bool true] ∧ ∃ P Q c d, Box w' Bo (m.st (a + 1) b) P Q c d ∧ Fr w P Q
theorem join_runf (m : Me) (a b : Int) (P Q : Addr) (c d Bm Ba Bb Bo Bj : Nat) (w : World) (ha : U64 a) (hwf : m.wf) (hk : m.kne a = 0) (hld : m.ld (a + 1) = 0) (h1 : Bm < Ba) (h2 : Ba < Bb) (h3 : Bb < Bo) (h4 : Bo < Bj)
    (hM : Box w Bm m P Q c d) (hA : Blk w Ba 44 #[.int .u64 a]) (hB : Blk w Bb 44 #[.int .u64 b]) (hO : Box w Bo m P Q c d) (hJ : Blk w Bj 4 #[.bool false]) :
    Run [Bo, Bj] (JnPhiF w m a b Bo Bj) [(105, #[bx Bm, bx Ba]), (106, #[bx Bm, bx Ba, bx Bb, bx Bo, bx Bj])] w := by
  refine ⟨Try.call105, fun w0 u0 => ?_⟩
  refine (join_c1 m a P Q c d Bm Ba w0 ha hwf (hM.up u0) (hA.up u0)).mono ?_
  rintro e w1 ⟨rfl, u1⟩
  refine ⟨_, rfl, .of_up u1, fun hx => absurd hk hx, fun hx => ?_⟩
  obtain ⟨ht, b0, b1⟩ := tw_off hM.2.1.2.1 hx
  refine ⟨Try.call106, fun w2 u2 => ?_⟩
  refine (joinf_c2 m a b _ _ _ false P Q c d Bm Ba Bb Bo Bj w2 ha ht hld b1 h1 h2 h3 h4 (((hM.up u0).up u1).up u2) (((hA.up u0).up u1).up u2) (((hB.up u0).up u1).up u2) (((hO.1.up u0).up u1).up u2) (((hJ.up u0).up u1).up u2)).mono ?_
  rintro e w3 ⟨rfl, k3, J3, P', Q', c', d', O3, hF⟩
  refine ⟨_, rfl, k3, fun hq => absurd rfl hq, fun _ w4 u4 => ⟨rfl, J3.up u4, P', Q', c', d', O3.up u4, hF.up ((u0.trans u1).trans u2).size⟩⟩

set_option maxHeartbeats 2000000 in
theorem join_ok (m : Me) (a b : Int) (P Q : Addr) (c d : Nat) (w : World) (hm : Sits w m P Q c d) (ha : U64 a) (hwf : m.wf) (hk : m.kne a = 0) (hld : m.ld (a + 1) = 0) :
    Calls Try.prog 93 #[.agg #[.int .i64 m.n, .slice (some P) m.n c, .slice (some Q) m.n d], .int .u64 a, .int .u64 b] w (GivesF2 w (m.st (a + 1) b) (.bool true) (.int .i64 0)) := by
  have HR := Lib.hid (join_runf m a b P Q c d)
  have HM := Lib.hid hm
  have HW := Lib.hid hwf
  have HA := Lib.hid ha
  generalize hK : m.st (a + 1) b = K
  have HK := Lib.hid hK
  have HKN := Lib.hid hk
  have HLD := Lib.hid hld
  clear hm hwf ha hK hk hld
  go_enter Try.func93, Try.ntmps93
  go_wp2_with (fail)
  refine calls_at (fun Wz0 hWz0 => ?_)
  have M0 : Blk Wz0 (w.heap.size) 25 #[.int .i64 m.n, .slice (some P) m.n c, .slice (some Q) m.n d] := by rw [hWz0]; exact (((((((Blk.new' _ (by simp) _ _).alloc _).alloc _).alloc _).alloc _).alloc _).alloc _)
  have A0 : Blk Wz0 (w.heap.size + 1) 44 #[.int .u64 a] := by rw [hWz0]; exact ((((((Blk.new' _ (by simp) _ _).alloc _).alloc _).alloc _).alloc _).alloc _)
  have B0 : Blk Wz0 (w.heap.size + 1 + 1) 44 #[.int .u64 b] := by rw [hWz0]; exact (((((Blk.new' _ (by simp) _ _).alloc _).alloc _).alloc _).alloc _)
  have R0 : Blk Wz0 (w.heap.size + 1 + 1 + 1) 25 #[.int .i64 0, .slice none 0 0, .slice none 0 0] := by rw [hWz0]; exact ((((Blk.new' _ (by simp) _ _).alloc _).alloc _).alloc _)
  have O0 : Blk Wz0 (w.heap.size + 1 + 1 + 1 + 1) 25 #[.int .i64 m.n, .slice (some P) m.n c, .slice (some Q) m.n d] := by rw [hWz0]; exact (((Blk.new' _ (by simp) _ _).alloc _).alloc _)
  have J0 : Blk Wz0 (w.heap.size + 1 + 1 + 1 + 1 + 1) 4 #[.bool false] := by rw [hWz0]; exact ((Blk.new' _ (by simp) _ _).alloc _)
  have G0 : Blk Wz0 (w.heap.size + 1 + 1 + 1 + 1 + 1 + 1) 100 (List.map fnv [(105, #[bx (w.heap.size), bx (w.heap.size + 1)]), (106, #[bx (w.heap.size), bx (w.heap.size + 1), bx (w.heap.size + 1 + 1), bx (w.heap.size + 1 + 1 + 1 + 1), bx (w.heap.size + 1 + 1 + 1 + 1 + 1)])]).toArray := by rw [hWz0]; exact Blk.new' _ (by simp) _ _
  have U0 : Up w Wz0 := by rw [hWz0]; exact ((((((((Up.refl w).alloc _).alloc _).alloc _).alloc _).alloc _).alloc _).alloc _)
  clear hWz0
  refine (do_any [(w.heap.size + 1 + 1 + 1 + 1), (w.heap.size + 1 + 1 + 1 + 1 + 1)] (JnPhiF Wz0 m a b (w.heap.size + 1 + 1 + 1 + 1) (w.heap.size + 1 + 1 + 1 + 1 + 1)) _ (w.heap.size + 1 + 1 + 1 + 1 + 1 + 1) Wz0 (by simp) (by simp <;> omega) G0 (HR.out _ _ _ _ _ _ HA.out HW.out HKN.out HLD.out (by omega) (by omega) (by omega) (by omega) ⟨M0, HM.out.up U0⟩ A0 B0 ⟨O0, HM.out.up U0⟩ J0)).mono ?_
  clear G0 M0 A0 B0 O0 J0
  rintro e w1 ⟨x, rfl, k1, hx, J1, P', Q', c', d', hO, hF⟩
  replace hF := Fr.up (a := w) hF U0.size
  rw [HK.out] at hO
  obtain ⟨O1, S1⟩ := hO
  have HX := Lib.hid hx
  have R1 := R0.kp k1 (by simp <;> omega)
  have U1 := U0.kp k1 (by simp; omega)
  clear R0 U0 hx
  have R1c := R1.cell
  have R1f := R1.frozen
  have R1l := R1.lt
  have O1c := O1.cell
  have J1c := J1.cell
  go_wp2
  go_region
  all_goals
    go_wp2
    refine bodyPost_ret (v := .tuple #[.agg #[.int .i64 K.n, .slice (some P') K.n c', .slice (some Q') K.n d'], .bool true, .int .i64 x]) (by simp [results, Try.results93, go_sem, R1c, R1l]) rfl ⟨P', Q', c', d', by rw [HX.out], ?_, ?_, hF⟩
    · exact (S1.up (Up.refl w1).drew).far3 R1.drew _ _ _
    · exact U1.drew.set3 (by omega) _ _ _

end Go.Proofs.Ytgcpkgogjcgfbaa
