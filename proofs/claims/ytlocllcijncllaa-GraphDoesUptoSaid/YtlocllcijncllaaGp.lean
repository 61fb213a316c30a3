/- What a thread does (graph.Do): contract. -/
import Derived.Test.YtlocllcijncllaaGo
namespace Go.Proofs.Ytlocllcijncllaa
open Go.Joins Go.ChangeShapes Go.WideShapes Go.ChangeAt Go.RowKit Go.Deep Go.Shelf Go.Maps
set_option linter.unusedVariables false
set_option linter.unusedSimpArgs false

def opv (o : Op) : Value := .agg #[.int .i64 o.kd, .int .i64 o.h, .int .i64 o.i, .int .i64 o.k, .int .u64 o.v, .int .i64 o.t, .int .i64 o.l, .int .u64 o.m]
def anv (a : An) : Value := .agg #[.int .i64 a.1, .int .u64 a.2.1, .bool a.2.2]
theorem OwnG.le {base b0 : Nat} {w : World} {vn vs : Value} {g : Gr} {us us2 : List Value} {BF GS BS : Nat} (h : OwnG base w vn vs g us us2 BF GS BS) (k : b0 ≤ base) : OwnG b0 w vn vs g us us2 BF GS BS :=
  ⟨own_le h.nodes k, ⟨h.flds.len, h.flds.row, fun q => by
    obtain ⟨h1, r⟩ := h.flds.blk q
    exact ⟨Nat.le_trans k h1, r⟩, h.flds.short⟩, h.val, h.grid, ⟨h.rows.len, h.rows.row, fun q => by
    obtain ⟨h1, r⟩ := h.rows.blk q
    exact ⟨Nat.le_trans k h1, r⟩, h.rows.short⟩, Nat.le_trans k h.ge, h.few⟩
/-- The end of a call that answers a graph and an answer, each in a block of its own. -/
theorem ret_do {fn : Func} {p q : Tmp} (h : fn.results = #[.cell p 25, .cell q 39]) (tmps : Array Value) (w : World) (G A : Nat) (a b x y z : Value)
    (hp : tmps.getD p undef = .pointer (some ⟨G, 0, none⟩)) (hG : Blk w G 25 #[a, b]) (hq : tmps.getD q undef = .pointer (some ⟨A, 0, none⟩)) (hA : Blk w A 39 #[x, y, z]) :
    (results fn tmps).run Try.prog w = .ok (.tuple #[.agg #[a, b], .agg #[x, y, z]]) w := by
  have hp' : tmps[p]?.getD undef = .pointer (some ⟨G, 0, none⟩) := by simpa using hp
  have hq' : tmps[q]?.getD undef = .pointer (some ⟨A, 0, none⟩) := by simpa using hq
  simp [results, h, hp', hq', asAddr, run_loadVar_row w G 25 25 _ _ _ hG Try.underlying25 rfl (by kernel_rfl), run_loadVar_row w A 39 39 _ _ _ hA Try.underlying39 rfl (by kernel_rfl)]
def DoPost (r : Gr × An) (w : World) (e : Ending) (w' : World) : Prop := ∃ v, e = .returned (.tuple #[v, anv r.2]) ∧ GrV w' v r.1 ∧ Up w w'
theorem do_arg (va vb : Value) (g : Gr) (th : Int) (o : Op) (w : World) (hg : GrV w (.agg #[va, vb]) g) (ht : ¬ isTh g th) : Calls Try.prog 18 #[.agg #[va, vb], .int .i64 th, opv o] w (DoPost (g, (1, 0, false)) w) := by
  have HG := Lib.hid hg
  obtain ⟨_, _, e, hns, hrw⟩ := hg
  cases e
  obtain ⟨An, cn, rfl, -⟩ := hns.slice
  obtain ⟨Ab, cb, rfl, hm⟩ := hrw.slice
  unfold maxLen at hm
  unfold isTh at ht
  clear hns hrw
  generalize g.2.length = n at *
  generalize g.1.length = m at *
  unfold opv
  by_cases h0 : th < 0
  · have d0 : decide (th < 0) = true := decide_eq_true h0
    clear ht h0
    go_enter Try.func18, Try.ntmps18
    go_wp2
    refine bodyPost_ret (ret_do rfl _ _ (w.heap.size + 1 + 1) (w.heap.size + 1 + 1 + 1) _ _ _ _ _ rfl (Blk.alloc (Blk.new' ((w.alloc _).alloc _) (by simp) _ _) _) rfl (Blk.new' (((w.alloc _).alloc _).alloc _) (by simp) _ _)) rfl ?_
    have U4 := ((((Up.refl w).alloc (.cells #[.slice An m cn, .slice Ab n cb] 25)).alloc (.cells #[.int .i64 o.kd, .int .i64 o.h, .int .i64 o.i, .int .i64 o.k, .int .u64 o.v, .int .i64 o.t, .int .i64 o.l, .int .u64 o.m] 30)).alloc (.cells #[.slice An m cn, .slice Ab n cb] 25)).alloc (.cells #[.int .i64 1, .int .u64 0, .bool false] 39)
    exact ⟨_, rfl, HG.out.up U4, U4⟩
  · have d0 : decide (th < 0) = false := decide_eq_false h0
    have d1 : decide (th ≥ (n : Int)) = true := decide_eq_true (by omega)
    clear ht h0
    go_enter Try.func18, Try.ntmps18
    go_wp2
    refine bodyPost_ret (ret_do rfl _ _ (w.heap.size + 1 + 1) (w.heap.size + 1 + 1 + 1) _ _ _ _ _ rfl (Blk.alloc (Blk.new' ((w.alloc _).alloc _) (by simp) _ _) _) rfl (Blk.new' (((w.alloc _).alloc _).alloc _) (by simp) _ _)) rfl ?_
    have U4 := ((((Up.refl w).alloc (.cells #[.slice An m cn, .slice Ab n cb] 25)).alloc (.cells #[.int .i64 o.kd, .int .i64 o.h, .int .i64 o.i, .int .i64 o.k, .int .u64 o.v, .int .i64 o.t, .int .i64 o.l, .int .u64 o.m] 30)).alloc (.cells #[.slice An m cn, .slice Ab n cb] 25)).alloc (.cells #[.int .i64 1, .int .u64 0, .bool false] 39)
    exact ⟨_, rfl, HG.out.up U4, U4⟩

/-- The world in which the boxes of Do stand. -/
def Bxs (w : World) (va vb : Value) (o : Op) (W : World) : Prop := Blk W w.heap.size 25 #[va, vb] ∧ Blk W (w.heap.size + 1) 30 #[.int .i64 o.kd, .int .i64 o.h, .int .i64 o.i, .int .i64 o.k, .int .u64 o.v, .int .i64 o.t, .int .i64 o.l, .int .u64 o.m] ∧ Blk W (w.heap.size + 1 + 1) 25 #[.slice none 0 0, .slice none 0 0] ∧ Blk W (w.heap.size + 1 + 1 + 1) 39 #[.int .i64 0, .int .u64 0, .bool false] ∧ Up w W ∧ w.heap.size + 1 + 1 + 1 + 1 ≤ W.heap.size
theorem Bxs.kf {w W W' : World} {va vb : Value} {o : Op} (h : Bxs w va vb o W) (k : Kf (w.heap.size + 1 + 1 + 1 + 1) W W') : Bxs w va vb o W' := by
  obtain ⟨h1, h2, h3, h4, h5, h6⟩ := h
  have f : ∀ g t cs, g < w.heap.size + 1 + 1 + 1 + 1 → Blk W g t cs → Blk W' g t cs := fun g t cs hg hb => (k.old g hg hb.lt).trans hb
  exact ⟨f _ _ _ (by omega) h1, f _ _ _ (by omega) h2, f _ _ _ (by omega) h3, f _ _ _ (by omega) h4, k.below w h5 (by omega), Nat.le_trans h6 k.size⟩
theorem Bxs.up {w W W' : World} {va vb : Value} {o : Op} (h : Bxs w va vb o W) (u : Up W W') : Bxs w va vb o W' := h.kf (.of_up u)
theorem far16 {w : World} {g D : Nat} {t : TypeId} {cs : Array Value} (h : Blk w g t cs) (hne : g ≠ D) (u0 u1 u2 u3 u4 u5 u6 u7 u8 u9 u10 u11 u12 u13 u14 u15 : Value) : Blk ((((((((((((((((w.setCell ⟨D, 0, none⟩ u0).setCell ⟨D, 1, none⟩ u1).setCell ⟨D, 2, none⟩ u2).setCell ⟨D, 3, none⟩ u3).setCell ⟨D, 4, none⟩ u4).setCell ⟨D, 5, none⟩ u5).setCell ⟨D, 6, none⟩ u6).setCell ⟨D, 7, none⟩ u7).setCell ⟨D, 8, none⟩ u8).setCell ⟨D, 9, none⟩ u9).setCell ⟨D, 10, none⟩ u10).setCell ⟨D, 11, none⟩ u11).setCell ⟨D, 12, none⟩ u12).setCell ⟨D, 13, none⟩ u13).setCell ⟨D, 14, none⟩ u14).setCell ⟨D, 15, none⟩ u15) g t cs :=
  (((((((((((((((h.far (p := ⟨D, 0, none⟩) hne u0).far (p := ⟨D, 1, none⟩) hne u1).far (p := ⟨D, 2, none⟩) hne u2).far (p := ⟨D, 3, none⟩) hne u3).far (p := ⟨D, 4, none⟩) hne u4).far (p := ⟨D, 5, none⟩) hne u5).far (p := ⟨D, 6, none⟩) hne u6).far (p := ⟨D, 7, none⟩) hne u7).far (p := ⟨D, 8, none⟩) hne u8).far (p := ⟨D, 9, none⟩) hne u9).far (p := ⟨D, 10, none⟩) hne u10).far (p := ⟨D, 11, none⟩) hne u11).far (p := ⟨D, 12, none⟩) hne u12).far (p := ⟨D, 13, none⟩) hne u13).far (p := ⟨D, 14, none⟩) hne u14).far (p := ⟨D, 15, none⟩) hne u15
theorem zeroF (w : World) : (zeroValue 71).run Try.prog w = .ok .nilFunc w := by kernel_rfl
theorem lookup_got {w : World} {M n : Nat} {D : DataW Value} {kd : Int} {v : Option Value} (h : OwnF w M n D) (hg : got D kd v) (hi : I64 kd) : ∃ u, (Instr.lookup 73 (.map (some M)) (.int .i64 kd) true).run Try.prog w = .ok (.tuple #[u, .bool v.isSome]) w ∧ ∀ x, v = some x → u = x := by
  obtain ⟨u, ps, h1, h2⟩ := h.look_ok lawI Try.underlying73 (zeroF w) (zd := .held .nilFunc) (zp := []) rfl (key_i hi)
  rw [hg.1] at h1
  refine ⟨u, h1, fun x e => ?_⟩
  have := hg.2 x e (.held .nilFunc)
  rw [this] at h2
  simp only [RF, Option.some.injEq, Prod.mk.injEq, DataW.held.injEq] at h2
  exact h2.1
theorem look_o {w : World} {M n D : Nat} {Dm : DataW Value} {kd : Int} (h : OwnF w M n Dm) (hi : I64 kd) (hk : ∀ kd, ∃ v, got Dm kd v ∧ Kat w D kd v) (hkd : kd < 1 ∨ 11 < kd) : ∃ u, (Instr.lookup 73 (.map (some M)) (.int .i64 kd) true).run Try.prog w = .ok (.tuple #[u, .bool false]) w := by
  obtain ⟨v, h1, h2⟩ := hk kd
  obtain ⟨u, h3, -⟩ := lookup_got h h1 hi
  have : v = none := by
    unfold Kat kfs at h2
    rw [if_neg (by omega), if_neg (by omega), if_neg (by omega), if_neg (by omega), if_neg (by omega), if_neg (by omega), if_neg (by omega), if_neg (by omega), if_neg (by omega), if_neg (by omega), if_neg (by omega)] at h2
    exact h2
  subst this
  exact ⟨u, h3⟩
theorem look_s {w : World} {M n D : Nat} {Dm : DataW Value} {kd : Int} {fs : List FuncId} (h : OwnF w M n Dm) (hi : I64 kd) (hk : ∀ kd, ∃ v, got Dm kd v ∧ Kat w D kd v) (hkd : kd ≠ 10 ∧ kfs kd = some fs) : ∃ B, (Instr.lookup 73 (.map (some M)) (.int .i64 kd) true).run Try.prog w = .ok (.tuple #[.func (.func 76) #[] #[.pointer (some ⟨B, 0, none⟩)], .bool true]) w ∧ ((fs = [] ∧ Blk w B 105 #[.slice none 0 0]) ∨ ∃ G, Blk w B 105 #[.slice (some ⟨G, 0, none⟩) fs.length fs.length] ∧ Blk w G 71 (fs.map (fnm D)).toArray) := by
  obtain ⟨v, h1, h2⟩ := hk kd
  obtain ⟨u, h3, h4⟩ := lookup_got h h1 hi
  unfold Kat at h2
  rw [if_neg hkd.1, hkd.2] at h2
  obtain ⟨x, rfl, B, rfl, h5⟩ := h2
  obtain rfl := h4 _ rfl
  exact ⟨B, h3, h5⟩
theorem look_p {w : World} {M n D : Nat} {Dm : DataW Value} {kd : Int} (h : OwnF w M n Dm) (hi : I64 kd) (hk : ∀ kd, ∃ v, got Dm kd v ∧ Kat w D kd v) (hkd : kd = 10) : (Instr.lookup 73 (.map (some M)) (.int .i64 kd) true).run Try.prog w = .ok (.tuple #[.func (.func 70) #[.pointer (some ⟨D, 0, none⟩)] #[], .bool true]) w := by
  obtain ⟨v, h1, h2⟩ := hk kd
  obtain ⟨u, h3, h4⟩ := lookup_got h h1 hi
  unfold Kat at h2
  rw [if_pos hkd] at h2
  subst h2
  obtain rfl := h4 _ rfl
  exact h3
theorem do1_any (w : World) : Calls Try.prog 32 #[] w fun e w' => e = .returned (.int .i64 1) ∧ w = w' := by
  go_enter Try.func32, Try.ntmps32
  go_wp2
  go_ret
  exact ⟨rfl, rfl⟩
theorem set16 {w : World} {D : Nat} {t : TypeId} (z0 z1 z2 z3 z4 z5 z6 z7 z8 z9 z10 z11 z12 z13 z14 z15 u0 u1 u2 u3 u4 u5 u6 u7 u8 u9 u10 u11 u12 u13 u14 u15 : Value) (h : Blk w D t #[z0, z1, z2, z3, z4, z5, z6, z7, z8, z9, z10, z11, z12, z13, z14, z15]) : Blk ((((((((((((((((w.setCell ⟨D, 0, none⟩ u0).setCell ⟨D, 1, none⟩ u1).setCell ⟨D, 2, none⟩ u2).setCell ⟨D, 3, none⟩ u3).setCell ⟨D, 4, none⟩ u4).setCell ⟨D, 5, none⟩ u5).setCell ⟨D, 6, none⟩ u6).setCell ⟨D, 7, none⟩ u7).setCell ⟨D, 8, none⟩ u8).setCell ⟨D, 9, none⟩ u9).setCell ⟨D, 10, none⟩ u10).setCell ⟨D, 11, none⟩ u11).setCell ⟨D, 12, none⟩ u12).setCell ⟨D, 13, none⟩ u13).setCell ⟨D, 14, none⟩ u14).setCell ⟨D, 15, none⟩ u15) D t #[u0, u1, u2, u3, u4, u5, u6, u7, u8, u9, u10, u11, u12, u13, u14, u15] := by
  have := (Blk.set_ (Blk.set_ (Blk.set_ (Blk.set_ (Blk.set_ (Blk.set_ (Blk.set_ (Blk.set_ (Blk.set_ (Blk.set_ (Blk.set_ (Blk.set_ (Blk.set_ (Blk.set_ (Blk.set_ (Blk.set_ h 0 u0) 1 u1) 2 u2) 3 u3) 4 u4) 5 u5) 6 u6) 7 u7) 8 u8) 9 u9) 10 u10) 11 u11) 12 u12) 13 u13) 14 u14) 15 u15)
  simpa using this
theorem own16 {base : Nat} {w : World} {vn vs : Value} {g : Gr} {us us2 : List Value} {BF GS BS D : Nat} {cs : Array Value} (h : OwnG base w vn vs g us us2 BF GS BS) (hb : Blk w D 70 cs) (u0 u1 u2 u3 u4 u5 u6 u7 u8 u9 u10 u11 u12 u13 u14 u15 : Value) : OwnG base ((((((((((((((((w.setCell ⟨D, 0, none⟩ u0).setCell ⟨D, 1, none⟩ u1).setCell ⟨D, 2, none⟩ u2).setCell ⟨D, 3, none⟩ u3).setCell ⟨D, 4, none⟩ u4).setCell ⟨D, 5, none⟩ u5).setCell ⟨D, 6, none⟩ u6).setCell ⟨D, 7, none⟩ u7).setCell ⟨D, 8, none⟩ u8).setCell ⟨D, 9, none⟩ u9).setCell ⟨D, 10, none⟩ u10).setCell ⟨D, 11, none⟩ u11).setCell ⟨D, 12, none⟩ u12).setCell ⟨D, 13, none⟩ u13).setCell ⟨D, 14, none⟩ u14).setCell ⟨D, 15, none⟩ u15) vn vs g us us2 BF GS BS := by
  have h0 := h.far hb (by decide) (by decide) (by decide) (by decide) 0 u0
  have b0 := hb.set_ 0 u0
  have h1 := h0.far b0 (by decide) (by decide) (by decide) (by decide) 1 u1
  have b1 := b0.set_ 1 u1
  have h2 := h1.far b1 (by decide) (by decide) (by decide) (by decide) 2 u2
  have b2 := b1.set_ 2 u2
  have h3 := h2.far b2 (by decide) (by decide) (by decide) (by decide) 3 u3
  have b3 := b2.set_ 3 u3
  have h4 := h3.far b3 (by decide) (by decide) (by decide) (by decide) 4 u4
  have b4 := b3.set_ 4 u4
  have h5 := h4.far b4 (by decide) (by decide) (by decide) (by decide) 5 u5
  have b5 := b4.set_ 5 u5
  have h6 := h5.far b5 (by decide) (by decide) (by decide) (by decide) 6 u6
  have b6 := b5.set_ 6 u6
  have h7 := h6.far b6 (by decide) (by decide) (by decide) (by decide) 7 u7
  have b7 := b6.set_ 7 u7
  have h8 := h7.far b7 (by decide) (by decide) (by decide) (by decide) 8 u8
  have b8 := b7.set_ 8 u8
  have h9 := h8.far b8 (by decide) (by decide) (by decide) (by decide) 9 u9
  have b9 := b8.set_ 9 u9
  have h10 := h9.far b9 (by decide) (by decide) (by decide) (by decide) 10 u10
  have b10 := b9.set_ 10 u10
  have h11 := h10.far b10 (by decide) (by decide) (by decide) (by decide) 11 u11
  have b11 := b10.set_ 11 u11
  have h12 := h11.far b11 (by decide) (by decide) (by decide) (by decide) 12 u12
  have b12 := b11.set_ 12 u12
  have h13 := h12.far b12 (by decide) (by decide) (by decide) (by decide) 13 u13
  have b13 := b12.set_ 13 u13
  have h14 := h13.far b13 (by decide) (by decide) (by decide) (by decide) 14 u14
  have b14 := b13.set_ 14 u14
  have h15 := h14.far b14 (by decide) (by decide) (by decide) (by decide) 15 u15
  have b15 := b14.set_ 15 u15
  exact h15
theorem up16 {w0 w : World} {D : Nat} (h : Up w0 w) (hD : w0.heap.size ≤ D) (u0 u1 u2 u3 u4 u5 u6 u7 u8 u9 u10 u11 u12 u13 u14 u15 : Value) : Up w0 ((((((((((((((((w.setCell ⟨D, 0, none⟩ u0).setCell ⟨D, 1, none⟩ u1).setCell ⟨D, 2, none⟩ u2).setCell ⟨D, 3, none⟩ u3).setCell ⟨D, 4, none⟩ u4).setCell ⟨D, 5, none⟩ u5).setCell ⟨D, 6, none⟩ u6).setCell ⟨D, 7, none⟩ u7).setCell ⟨D, 8, none⟩ u8).setCell ⟨D, 9, none⟩ u9).setCell ⟨D, 10, none⟩ u10).setCell ⟨D, 11, none⟩ u11).setCell ⟨D, 12, none⟩ u12).setCell ⟨D, 13, none⟩ u13).setCell ⟨D, 14, none⟩ u14).setCell ⟨D, 15, none⟩ u15) := by
  exact (Up.setCell (Up.setCell (Up.setCell (Up.setCell (Up.setCell (Up.setCell (Up.setCell (Up.setCell (Up.setCell (Up.setCell (Up.setCell (Up.setCell (Up.setCell (Up.setCell (Up.setCell (Up.setCell h (p := ⟨D, 0, none⟩) hD u0) (p := ⟨D, 1, none⟩) hD u1) (p := ⟨D, 2, none⟩) hD u2) (p := ⟨D, 3, none⟩) hD u3) (p := ⟨D, 4, none⟩) hD u4) (p := ⟨D, 5, none⟩) hD u5) (p := ⟨D, 6, none⟩) hD u6) (p := ⟨D, 7, none⟩) hD u7) (p := ⟨D, 8, none⟩) hD u8) (p := ⟨D, 9, none⟩) hD u9) (p := ⟨D, 10, none⟩) hD u10) (p := ⟨D, 11, none⟩) hD u11) (p := ⟨D, 12, none⟩) hD u12) (p := ⟨D, 13, none⟩) hD u13) (p := ⟨D, 14, none⟩) hD u14) (p := ⟨D, 15, none⟩) hD u15)
theorem bxs16 {w W : World} {D : Nat} {va vb : Value} {o : Op} (h : Bxs w va vb o W) (hD : w.heap.size + 1 + 1 + 1 + 1 ≤ D) (u0 u1 u2 u3 u4 u5 u6 u7 u8 u9 u10 u11 u12 u13 u14 u15 : Value) : Bxs w va vb o ((((((((((((((((W.setCell ⟨D, 0, none⟩ u0).setCell ⟨D, 1, none⟩ u1).setCell ⟨D, 2, none⟩ u2).setCell ⟨D, 3, none⟩ u3).setCell ⟨D, 4, none⟩ u4).setCell ⟨D, 5, none⟩ u5).setCell ⟨D, 6, none⟩ u6).setCell ⟨D, 7, none⟩ u7).setCell ⟨D, 8, none⟩ u8).setCell ⟨D, 9, none⟩ u9).setCell ⟨D, 10, none⟩ u10).setCell ⟨D, 11, none⟩ u11).setCell ⟨D, 12, none⟩ u12).setCell ⟨D, 13, none⟩ u13).setCell ⟨D, 14, none⟩ u14).setCell ⟨D, 15, none⟩ u15) := by
  obtain ⟨h1, h2, h3, h4, h5, h6⟩ := h
  exact ⟨far16 h1 (by omega) u0 u1 u2 u3 u4 u5 u6 u7 u8 u9 u10 u11 u12 u13 u14 u15, far16 h2 (by omega) u0 u1 u2 u3 u4 u5 u6 u7 u8 u9 u10 u11 u12 u13 u14 u15, far16 h3 (by omega) u0 u1 u2 u3 u4 u5 u6 u7 u8 u9 u10 u11 u12 u13 u14 u15, far16 h4 (by omega) u0 u1 u2 u3 u4 u5 u6 u7 u8 u9 u10 u11 u12 u13 u14 u15, up16 h5 (by omega) u0 u1 u2 u3 u4 u5 u6 u7 u8 u9 u10 u11 u12 u13 u14 u15, by simpa using h6⟩
/-- The two boxes of the results, written. -/
theorem endG {w : World} {g a : Nat} {c0 c1 d0 d1 d2 x y p q r : Value} (h3 : Blk w g 25 #[c0, c1]) (h4 : Blk w a 39 #[d0, d1, d2]) : Blk (((((w.setCell ⟨g, 0, none⟩ x).setCell ⟨g, 1, none⟩ y).setCell ⟨a, 0, none⟩ p).setCell ⟨a, 1, none⟩ q).setCell ⟨a, 2, none⟩ r) g 25 #[x, y] := by
  have hne := h3.ne_type h4 (by decide)
  have := (h3.set_ 0 x).set_ 1 y
  exact ((Blk.far (p := ⟨a, 0, none⟩) (by simpa using this) hne p).far (p := ⟨a, 1, none⟩) hne q).far (p := ⟨a, 2, none⟩) hne r
theorem endA {w : World} {g a : Nat} {c0 c1 d0 d1 d2 x y p q r : Value} (h3 : Blk w g 25 #[c0, c1]) (h4 : Blk w a 39 #[d0, d1, d2]) : Blk (((((w.setCell ⟨g, 0, none⟩ x).setCell ⟨g, 1, none⟩ y).setCell ⟨a, 0, none⟩ p).setCell ⟨a, 1, none⟩ q).setCell ⟨a, 2, none⟩ r) a 39 #[p, q, r] := by
  have hne := h4.ne_type h3 (by decide)
  have := ((((h4.far (p := ⟨g, 0, none⟩) hne x).far (p := ⟨g, 1, none⟩) hne y).set_ 0 p).set_ 1 q).set_ 2 r
  simpa using this
theorem endR {T : TypeId → Prop} {P : World → Prop} {w : World} {g a : Nat} {c0 c1 d0 d1 d2 x y p q r : Value} (h : Rob T P w) (h3 : Blk w g 25 #[c0, c1]) (h4 : Blk w a 39 #[d0, d1, d2]) (n1 : ¬ T 25) (n2 : ¬ T 39) : Rob T P (((((w.setCell ⟨g, 0, none⟩ x).setCell ⟨g, 1, none⟩ y).setCell ⟨a, 0, none⟩ p).setCell ⟨a, 1, none⟩ q).setCell ⟨a, 2, none⟩ r).drew := by
  refine h.keep fun b t cs ht hb => Blk.drew ?_
  have e1 : b ≠ g := hb.ne_type h3 (fun e => n1 (e ▸ ht))
  have e2 : b ≠ a := hb.ne_type h4 (fun e => n2 (e ▸ ht))
  exact ((((hb.far (p := ⟨g, 0, none⟩) e1 x).far (p := ⟨g, 1, none⟩) e1 y).far (p := ⟨a, 0, none⟩) e2 p).far (p := ⟨a, 1, none⟩) e2 q).far (p := ⟨a, 2, none⟩) e2 r
theorem endU {w0 w : World} {x y p q r : Value} (h : Up w0 w) : Up w0 (((((w.setCell ⟨w0.heap.size + 1 + 1, 0, none⟩ x).setCell ⟨w0.heap.size + 1 + 1, 1, none⟩ y).setCell ⟨w0.heap.size + 1 + 1 + 1, 0, none⟩ p).setCell ⟨w0.heap.size + 1 + 1 + 1, 1, none⟩ q).setCell ⟨w0.heap.size + 1 + 1 + 1, 2, none⟩ r) :=
  ((((h.setCell (p := ⟨_, 0, none⟩) (by simp only []; omega) x).setCell (p := ⟨_, 1, none⟩) (by simp only []; omega) y).setCell (p := ⟨_, 0, none⟩) (by simp only []; omega) p).setCell (p := ⟨_, 1, none⟩) (by simp only []; omega) q).setCell (p := ⟨_, 2, none⟩) (by simp only []; omega) r
/-- What do does. -/
def DoF (w : World) (g : Gr) (th : Int) (o : Op) (D : Nat) (w3 : World) (F : FuncId) (b f : Array Value) : Prop := Calls Try.prog F (b ++ f) w3 (RunP (w.heap.size + 1 + 1 + 1 + 1) (Phi g th o D) w3)

set_option maxRecDepth 100000 in
set_option maxHeartbeats 4000000 in
theorem do_o (va vb : Value) (g : Gr) (th : Int) (o : Op) (w : World) (hg : GrV w (.agg #[va, vb]) g) (hk : DoOk g th o) (hF : FitG g) (hi : I64 o.kd) (hkd : o.kd < 1 ∨ 11 < o.kd) : Calls Try.prog 18 #[.agg #[va, vb], .int .i64 th, opv o] w (DoPost (doG g th o) w) := by
  have HKX := Lib.hid hkd
  clear hkd
  have HG := Lib.hid hg
  have HK := Lib.hid hk
  have HCP := Lib.hid (fun w' (u : Up w w') => copied_any (.agg #[va, vb]) g w' (hg.up u) hF)
  obtain ⟨_, _, e, hns, hrw⟩ := hg
  cases e
  obtain ⟨An, cn, rfl, -⟩ := hns.slice
  obtain ⟨Ab, cb, rfl, hm⟩ := hrw.slice
  unfold maxLen at hm
  obtain ⟨ht0, ht1⟩ := hk.th
  have d0 : decide (th < 0) = false := decide_eq_false (by omega)
  have d1 : decide (th ≥ (g.2.length : Int)) = false := decide_eq_false (by omega)
  have HDO : Hid (doG g th o = if errG g th o = 0 then (newG g th o, (0, ansV g th o, ansY g th o)) else (g, (errG g th o, 0, false))) := Lib.hid (by unfold doG; rw [if_pos hk.th])
  clear hns hrw hk hF ht0 ht1
  generalize g.2.length = n at *
  generalize g.1.length = m at *
  unfold opv
  go_enter Try.func18, Try.ntmps18
  go_wp2_with (fail)
  have B4 : Bxs w (.slice An m cn) (.slice Ab n cb) o ((((w.alloc (.cells #[.slice An m cn, .slice Ab n cb] 25)).alloc (.cells #[.int .i64 o.kd, .int .i64 o.h, .int .i64 o.i, .int .i64 o.k, .int .u64 o.v, .int .i64 o.t, .int .i64 o.l, .int .u64 o.m] 30)).alloc (.cells #[.slice none 0 0, .slice none 0 0] 25)).alloc (.cells #[.int .i64 0, .int .u64 0, .bool false] 39)) :=
    ⟨(((Blk.new w _ _).alloc _).alloc _).alloc _, ((Blk.new' (w.alloc _) (by simp) _ _).alloc _).alloc _, Blk.alloc (Blk.new' ((w.alloc _).alloc _) (by simp) _ _) _, Blk.new' (((w.alloc _).alloc _).alloc _) (by simp) _ _, ((((Up.refl w).alloc _).alloc _).alloc _).alloc _, by simp⟩
  generalize ((((w.alloc (.cells #[.slice An m cn, .slice Ab n cb] 25)).alloc (.cells #[.int .i64 o.kd, .int .i64 o.h, .int .i64 o.i, .int .i64 o.k, .int .u64 o.v, .int .i64 o.t, .int .i64 o.l, .int .u64 o.m] 30)).alloc (.cells #[.slice none 0 0, .slice none 0 0] 25)).alloc (.cells #[.int .i64 0, .int .u64 0, .bool false] 39)) = W4 at *
  have g1 := B4.1.cell
  have g2 := B4.1.lt
  have o1 := B4.2.1.cell
  have o2 := B4.2.1.lt
  have nD0 : w.heap.size ≠ W4.heap.size := Nat.ne_of_lt g2
  have nD1 : w.heap.size + 1 ≠ W4.heap.size := Nat.ne_of_lt o2
  have BG := B4.1.drew
  have BO := B4.2.1.drew
  have BG1 := B4.1
  have BO1 := B4.2.1
  have U0 := Up.refl W4.drew
  go_region_held3 (fun w' => (∀ i, w'.cell? ⟨w.heap.size, i, none⟩ = (#[.slice An m cn, .slice Ab n cb] : Array Value)[i]?) ∧ (∀ i, w'.cell? ⟨w.heap.size + 1, i, none⟩ = (#[.int .i64 o.kd, .int .i64 o.h, .int .i64 o.i, .int .i64 o.k, .int .u64 o.v, .int .i64 o.t, .int .i64 o.l, .int .u64 o.m] : Array Value)[i]?))
    (first
      | with_reducible exact ⟨fun i => (Blk.up BG (by assumption)).cell i, fun i => (Blk.up BO (by assumption)).cell i⟩
      | with_reducible exact ⟨fun i => (BG1.alloc _).drew.cell i, fun i => (BO1.alloc _).drew.cell i⟩
      | with_reducible exact ⟨fun i => (HB1.alloc _).cell i, fun i => (HB2.alloc _).cell i⟩
      | with_reducible exact ⟨fun i => (far16 HB1 nD0 _ _ _ _ _ _ _ _ _ _ _ _ _ _ _ _).cell i, fun i => (far16 HB2 nD1 _ _ _ _ _ _ _ _ _ _ _ _ _ _ _ _).cell i⟩)
    ((go_at_call 30; (refine (HCP.out _ (by first | exact B4.2.2.2.2.1.drew | exact (B4.2.2.2.2.1.alloc _).drew | exact B4.2.2.2.2.1.drew.alloc _)).mono ?_); rintro e wz ⟨vn, vs, us, us2, BF, GS, BS, rfl, hO, hz⟩; have hON := hO.nodes; have hOV := hO.val; obtain ⟨A1, c1, rfl⟩ := own_slice hON; subst hOV; clear hON; have HBz : Bxs w (.slice An m cn) (.slice Ab n cb) o wz := (by first | exact B4.up (Up.trans (Up.refl W4).drew hz) | exact B4.up (Up.trans ((Up.refl W4).alloc _).drew hz)); have HB1 := HBz.1; have HB2 := HBz.2.1; have UZ : Up W4.drew wz := (by first | exact hz | exact Up.trans ((Up.refl W4.drew).alloc _) hz); (try (have DZ := Blk.up (Blk.drew (Blk.new W4 70 _)) hz; have DZc := DZ.cell; have DZf := DZ.frozen; have DZl := DZ.lt))))
  · have HB3 := Lib.hid (HBz.up ((Up.refl wz).alloc (.cells (dcs (.slice A1 g.1.length c1) (.slice (some ⟨GS, 0, none⟩) g.2.length g.2.length) th o kn0) 70)))
    have HS3 : Hid (St (w.heap.size + 1 + 1 + 1 + 1) wz.heap.size (wz.alloc (.cells (dcs (.slice A1 g.1.length c1) (.slice (some ⟨GS, 0, none⟩) g.2.length g.2.length) th o kn0) 70)) g th o kn0) := Lib.hid
      ⟨_, _, us, us2, BF, GS, BS, Blk.new wz _ _, (hO.le B4.2.2.2.2.2).up ((Up.refl wz).alloc _), HBz.2.2.2.2.2⟩
    unfold dcs at HB3 HS3
    generalize wz.alloc (.cells #[.slice A1 g.1.length c1, .slice (some ⟨GS, 0, none⟩) g.2.length g.2.length, .int .i64 th, .int .i64 o.kd, .int .i64 o.h, .int .i64 o.i, .int .i64 o.k, .int .u64 o.v, .int .i64 o.t, .int .i64 o.l, .int .u64 o.m, .int .i64 0, .int .i64 0, .int .i64 0, .int .u64 0, .bool false] 70) = w3 at *
    generalize hDD : wz.heap.size = D at *
    clear hDD BG BO BG1 BO1 U0 g1 g2 o1 o2 nD0 nD1 hO hz HB1 HB2 UZ
    have HBd := HB3.out.2.1.drew
    have HKD := Lib.hid (kinds_any D w3.drew)
    have oc1 := HBd.cell
    have ol1 := HBd.lt
    go_wp2_with (fail)
    go_region_with (go_at_call 31; (refine HKD.out.mono ?_); rintro e wk ⟨M, nM, Dm, rfl, hOm, hUk, hkk⟩; obtain ⟨u, hlook⟩ := look_o hOm hi hkk HKX.out; have HBk := HBd.up hUk; have oc2 := HBk.cell; have ol2 := HBk.lt)
    all_goals
      have HB5 := Lib.hid (HB3.out.up ((Up.refl w3).drew.trans hUk))
      have HS5 := Lib.hid (HS3.out.up ((Up.refl w3).drew.trans hUk))
      clear oc1 ol1 oc2 ol2 HBd HBk hOm hkk hUk
      go_wp2_with (fail)
      refine (do1_any _).mono ?_
      rintro e wl ⟨rfl, hwl⟩
      have HB6 := Lib.hid (HB5.out.up (by rw [hwl]; exact Up.refl _))
      clear hwl
      have hbx := HB6.out
      obtain ⟨x1, x2, x3, x4, x5, x6⟩ := hbx
      have c1' := x1.cell
      have l1' := x1.lt
      have c3' := x3.cell
      have f3' := x3.frozen
      have l3' := x3.lt
      have c4' := x4.cell
      have f4' := x4.frozen
      have l4' := x4.lt
      clear x1 x2 x3 x4 x5 x6
      go_wp2_with (fail)
      obtain ⟨x1, x2, x3, x4, x5, x6⟩ := HB6.out
      refine bodyPost_ret (ret_do rfl _ _ (w.heap.size + 1 + 1) (w.heap.size + 1 + 1 + 1) (.slice An m cn) (.slice Ab n cb) (.int .i64 1) (.int .u64 0) (.bool false) rfl (endG x3 x4) rfl (endA x3 x4)) rfl ?_
      rw [HDO.out, if_neg (by rw [errO HKX.out]; decide)]
      exact ⟨_, by rw [errO HKX.out]; rfl, HG.out.up (endU x5), endU x5⟩
  · have hbS := set16 _ _ _ _ _ _ _ _ _ _ _ _ _ _ _ _ (.slice A1 g.1.length c1) (.slice (some ⟨GS, 0, none⟩) g.2.length g.2.length) (.int .i64 th) (.int .i64 o.kd) (.int .i64 o.h) (.int .i64 o.i) (.int .i64 o.k) (.int .u64 o.v) (.int .i64 o.t) (.int .i64 o.l) (.int .u64 o.m) (.int .i64 0) (.int .i64 0) (.int .i64 0) (.int .u64 0) (.bool false) DZ
    have HB3 := Lib.hid (bxs16 HBz (D := W4.heap.size) B4.2.2.2.2.2 (.slice A1 g.1.length c1) (.slice (some ⟨GS, 0, none⟩) g.2.length g.2.length) (.int .i64 th) (.int .i64 o.kd) (.int .i64 o.h) (.int .i64 o.i) (.int .i64 o.k) (.int .u64 o.v) (.int .i64 o.t) (.int .i64 o.l) (.int .u64 o.m) (.int .i64 0) (.int .i64 0) (.int .i64 0) (.int .u64 0) (.bool false))
    have HS3 : Hid (St (w.heap.size + 1 + 1 + 1 + 1) W4.heap.size _ g th o kn0) := Lib.hid ⟨_, _, us, us2, BF, GS, BS, hbS, own16 (hO.le (Nat.le_trans B4.2.2.2.2.2 ((Up.refl W4).alloc _).drew.size)) DZ _ _ _ _ _ _ _ _ _ _ _ _ _ _ _ _, B4.2.2.2.2.2⟩
    clear hbS DZ DZc DZf DZl
    generalize ((((((((((((((((wz.setCell ⟨W4.heap.size, 0, none⟩ (.slice A1 g.1.length c1)).setCell ⟨W4.heap.size, 1, none⟩ (.slice (some ⟨GS, 0, none⟩) g.2.length g.2.length)).setCell ⟨W4.heap.size, 2, none⟩ (.int .i64 th)).setCell ⟨W4.heap.size, 3, none⟩ (.int .i64 o.kd)).setCell ⟨W4.heap.size, 4, none⟩ (.int .i64 o.h)).setCell ⟨W4.heap.size, 5, none⟩ (.int .i64 o.i)).setCell ⟨W4.heap.size, 6, none⟩ (.int .i64 o.k)).setCell ⟨W4.heap.size, 7, none⟩ (.int .u64 o.v)).setCell ⟨W4.heap.size, 8, none⟩ (.int .i64 o.t)).setCell ⟨W4.heap.size, 9, none⟩ (.int .i64 o.l)).setCell ⟨W4.heap.size, 10, none⟩ (.int .u64 o.m)).setCell ⟨W4.heap.size, 11, none⟩ (.int .i64 0)).setCell ⟨W4.heap.size, 12, none⟩ (.int .i64 0)).setCell ⟨W4.heap.size, 13, none⟩ (.int .i64 0)).setCell ⟨W4.heap.size, 14, none⟩ (.int .u64 0)).setCell ⟨W4.heap.size, 15, none⟩ (.bool false)) = w3 at *
    generalize hDD : W4.heap.size = D at *
    clear hDD BG BO BG1 BO1 U0 g1 g2 o1 o2 nD0 nD1 hO hz HB1 HB2 UZ
    have HBd := HB3.out.2.1.drew
    have HKD := Lib.hid (kinds_any D w3.drew)
    have oc1 := HBd.cell
    have ol1 := HBd.lt
    go_wp2_with (fail)
    go_region_with (go_at_call 31; (refine HKD.out.mono ?_); rintro e wk ⟨M, nM, Dm, rfl, hOm, hUk, hkk⟩; obtain ⟨u, hlook⟩ := look_o hOm hi hkk HKX.out; have HBk := HBd.up hUk; have oc2 := HBk.cell; have ol2 := HBk.lt)
    all_goals
      have HB5 := Lib.hid (HB3.out.up ((Up.refl w3).drew.trans hUk))
      have HS5 := Lib.hid (HS3.out.up ((Up.refl w3).drew.trans hUk))
      clear oc1 ol1 oc2 ol2 HBd HBk hOm hkk hUk
      go_wp2_with (fail)
      refine (do1_any _).mono ?_
      rintro e wl ⟨rfl, hwl⟩
      have HB6 := Lib.hid (HB5.out.up (by rw [hwl]; exact Up.refl _))
      clear hwl
      have hbx := HB6.out
      obtain ⟨x1, x2, x3, x4, x5, x6⟩ := hbx
      have c1' := x1.cell
      have l1' := x1.lt
      have c3' := x3.cell
      have f3' := x3.frozen
      have l3' := x3.lt
      have c4' := x4.cell
      have f4' := x4.frozen
      have l4' := x4.lt
      clear x1 x2 x3 x4 x5 x6
      go_wp2_with (fail)
      obtain ⟨x1, x2, x3, x4, x5, x6⟩ := HB6.out
      refine bodyPost_ret (ret_do rfl _ _ (w.heap.size + 1 + 1) (w.heap.size + 1 + 1 + 1) (.slice An m cn) (.slice Ab n cb) (.int .i64 1) (.int .u64 0) (.bool false) rfl (endG x3 x4) rfl (endA x3 x4)) rfl ?_
      rw [HDO.out, if_neg (by rw [errO HKX.out]; decide)]
      exact ⟨_, by rw [errO HKX.out]; rfl, HG.out.up (endU x5), endU x5⟩

set_option maxRecDepth 100000 in
set_option maxHeartbeats 4000000 in
theorem do_p (va vb : Value) (g : Gr) (th : Int) (o : Op) (w : World) (hg : GrV w (.agg #[va, vb]) g) (hk : DoOk g th o) (hF : FitG g) (hi : I64 o.kd) (hkd : o.kd = 10) : Calls Try.prog 18 #[.agg #[va, vb], .int .i64 th, opv o] w (DoPost (doG g th o) w) := by
  have HKX := Lib.hid hkd
  clear hkd
  have HG := Lib.hid hg
  have HK := Lib.hid hk
  have HCP := Lib.hid (fun w' (u : Up w w') => copied_any (.agg #[va, vb]) g w' (hg.up u) hF)
  obtain ⟨_, _, e, hns, hrw⟩ := hg
  cases e
  obtain ⟨An, cn, rfl, -⟩ := hns.slice
  obtain ⟨Ab, cb, rfl, hm⟩ := hrw.slice
  unfold maxLen at hm
  obtain ⟨ht0, ht1⟩ := hk.th
  have d0 : decide (th < 0) = false := decide_eq_false (by omega)
  have d1 : decide (th ≥ (g.2.length : Int)) = false := decide_eq_false (by omega)
  have HDO : Hid (doG g th o = if errG g th o = 0 then (newG g th o, (0, ansV g th o, ansY g th o)) else (g, (errG g th o, 0, false))) := Lib.hid (by unfold doG; rw [if_pos hk.th])
  clear hns hrw hk hF ht0 ht1
  generalize g.2.length = n at *
  generalize g.1.length = m at *
  unfold opv
  go_enter Try.func18, Try.ntmps18
  go_wp2_with (fail)
  have B4 : Bxs w (.slice An m cn) (.slice Ab n cb) o ((((w.alloc (.cells #[.slice An m cn, .slice Ab n cb] 25)).alloc (.cells #[.int .i64 o.kd, .int .i64 o.h, .int .i64 o.i, .int .i64 o.k, .int .u64 o.v, .int .i64 o.t, .int .i64 o.l, .int .u64 o.m] 30)).alloc (.cells #[.slice none 0 0, .slice none 0 0] 25)).alloc (.cells #[.int .i64 0, .int .u64 0, .bool false] 39)) :=
    ⟨(((Blk.new w _ _).alloc _).alloc _).alloc _, ((Blk.new' (w.alloc _) (by simp) _ _).alloc _).alloc _, Blk.alloc (Blk.new' ((w.alloc _).alloc _) (by simp) _ _) _, Blk.new' (((w.alloc _).alloc _).alloc _) (by simp) _ _, ((((Up.refl w).alloc _).alloc _).alloc _).alloc _, by simp⟩
  generalize ((((w.alloc (.cells #[.slice An m cn, .slice Ab n cb] 25)).alloc (.cells #[.int .i64 o.kd, .int .i64 o.h, .int .i64 o.i, .int .i64 o.k, .int .u64 o.v, .int .i64 o.t, .int .i64 o.l, .int .u64 o.m] 30)).alloc (.cells #[.slice none 0 0, .slice none 0 0] 25)).alloc (.cells #[.int .i64 0, .int .u64 0, .bool false] 39)) = W4 at *
  have g1 := B4.1.cell
  have g2 := B4.1.lt
  have o1 := B4.2.1.cell
  have o2 := B4.2.1.lt
  have nD0 : w.heap.size ≠ W4.heap.size := Nat.ne_of_lt g2
  have nD1 : w.heap.size + 1 ≠ W4.heap.size := Nat.ne_of_lt o2
  have BG := B4.1.drew
  have BO := B4.2.1.drew
  have BG1 := B4.1
  have BO1 := B4.2.1
  have U0 := Up.refl W4.drew
  go_region_held3 (fun w' => (∀ i, w'.cell? ⟨w.heap.size, i, none⟩ = (#[.slice An m cn, .slice Ab n cb] : Array Value)[i]?) ∧ (∀ i, w'.cell? ⟨w.heap.size + 1, i, none⟩ = (#[.int .i64 o.kd, .int .i64 o.h, .int .i64 o.i, .int .i64 o.k, .int .u64 o.v, .int .i64 o.t, .int .i64 o.l, .int .u64 o.m] : Array Value)[i]?))
    (first
      | with_reducible exact ⟨fun i => (Blk.up BG (by assumption)).cell i, fun i => (Blk.up BO (by assumption)).cell i⟩
      | with_reducible exact ⟨fun i => (BG1.alloc _).drew.cell i, fun i => (BO1.alloc _).drew.cell i⟩
      | with_reducible exact ⟨fun i => (HB1.alloc _).cell i, fun i => (HB2.alloc _).cell i⟩
      | with_reducible exact ⟨fun i => (far16 HB1 nD0 _ _ _ _ _ _ _ _ _ _ _ _ _ _ _ _).cell i, fun i => (far16 HB2 nD1 _ _ _ _ _ _ _ _ _ _ _ _ _ _ _ _).cell i⟩)
    ((go_at_call 30; (refine (HCP.out _ (by first | exact B4.2.2.2.2.1.drew | exact (B4.2.2.2.2.1.alloc _).drew | exact B4.2.2.2.2.1.drew.alloc _)).mono ?_); rintro e wz ⟨vn, vs, us, us2, BF, GS, BS, rfl, hO, hz⟩; have hON := hO.nodes; have hOV := hO.val; obtain ⟨A1, c1, rfl⟩ := own_slice hON; subst hOV; clear hON; have HBz : Bxs w (.slice An m cn) (.slice Ab n cb) o wz := (by first | exact B4.up (Up.trans (Up.refl W4).drew hz) | exact B4.up (Up.trans ((Up.refl W4).alloc _).drew hz)); have HB1 := HBz.1; have HB2 := HBz.2.1; have UZ : Up W4.drew wz := (by first | exact hz | exact Up.trans ((Up.refl W4.drew).alloc _) hz); (try (have DZ := Blk.up (Blk.drew (Blk.new W4 70 _)) hz; have DZc := DZ.cell; have DZf := DZ.frozen; have DZl := DZ.lt))))
  · have HB3 := Lib.hid (HBz.up ((Up.refl wz).alloc (.cells (dcs (.slice A1 g.1.length c1) (.slice (some ⟨GS, 0, none⟩) g.2.length g.2.length) th o kn0) 70)))
    have HS3 : Hid (St (w.heap.size + 1 + 1 + 1 + 1) wz.heap.size (wz.alloc (.cells (dcs (.slice A1 g.1.length c1) (.slice (some ⟨GS, 0, none⟩) g.2.length g.2.length) th o kn0) 70)) g th o kn0) := Lib.hid
      ⟨_, _, us, us2, BF, GS, BS, Blk.new wz _ _, (hO.le B4.2.2.2.2.2).up ((Up.refl wz).alloc _), HBz.2.2.2.2.2⟩
    unfold dcs at HB3 HS3
    generalize wz.alloc (.cells #[.slice A1 g.1.length c1, .slice (some ⟨GS, 0, none⟩) g.2.length g.2.length, .int .i64 th, .int .i64 o.kd, .int .i64 o.h, .int .i64 o.i, .int .i64 o.k, .int .u64 o.v, .int .i64 o.t, .int .i64 o.l, .int .u64 o.m, .int .i64 0, .int .i64 0, .int .i64 0, .int .u64 0, .bool false] 70) = w3 at *
    generalize hDD : wz.heap.size = D at *
    clear hDD BG BO BG1 BO1 U0 g1 g2 o1 o2 nD0 nD1 hO hz HB1 HB2 UZ
    have HBd := HB3.out.2.1.drew
    have HKD := Lib.hid (kinds_any D w3.drew)
    have oc1 := HBd.cell
    have ol1 := HBd.lt
    go_wp2_with (fail)
    go_region_with (go_at_call 31; (refine HKD.out.mono ?_); rintro e wk ⟨M, nM, Dm, rfl, hOm, hUk, hkk⟩; have hlook := look_p hOm hi hkk HKX.out; have HBk := HBd.up hUk; have oc2 := HBk.cell; have ol2 := HBk.lt)
    all_goals
      have HB5 := Lib.hid (HB3.out.up ((Up.refl w3).drew.trans hUk))
      have HS5 := Lib.hid (HS3.out.up ((Up.refl w3).drew.trans hUk))
      clear oc1 ol1 oc2 ol2 HBd HBk hOm hkk hUk
      go_wp2_with (fail)
      refine (run_10 HK.out HKX.out HS5.out).mono ?_
      rintro e wl ⟨x, rfl, hKf, hPhi⟩
      have HB6 := Lib.hid (HB5.out.kf hKf)
      have HE0 := Lib.hid hPhi.1
      by_cases hx0 : x = 0
      · subst hx0
        have HPH := Lib.hid (hPhi.2 rfl)
        clear hKf hPhi
        obtain ⟨s, ⟨vn, vs, hDl, hr1, hr2⟩, hs1, hs2, hs3⟩ := HPH.out
        have HGR1 := Lib.hid hr1
        have HGR2 := Lib.hid hr2
        obtain ⟨An', cn', rfl, -⟩ := hr1.out.slice
        obtain ⟨Ab', cb', rfl, -⟩ := hr2.out.slice
        have hbx := HB6.out
        obtain ⟨x1, x2, x3, x4, x5, x6⟩ := hbx
        have HDL := Lib.hid hDl
        have cD := hDl.cell
        unfold dcs at cD
        rw [hs1, hs2, hs3] at cD
        have lD := hDl.lt
        have c3' := x3.cell
        have f3' := x3.frozen
        have l3' := x3.lt
        have c4' := x4.cell
        have f4' := x4.frozen
        have l4' := x4.lt
        clear x1 x2 x3 x4 x5 x6 hDl hr1 hr2
        generalize (newG g th o).1.length = m' at *
        generalize (newG g th o).2.length = n' at *
        go_wp2_with (fail)
        go_region
        go_wp2_with (fail)
        obtain ⟨x1, x2, x3, x4, x5, x6⟩ := HB6.out
        refine bodyPost_ret (ret_do rfl _ _ (w.heap.size + 1 + 1) (w.heap.size + 1 + 1 + 1) (.slice An' m' cn') (.slice Ab' n' cb') (.int .i64 0) (.int .u64 (ansV g th o)) (.bool (ansY g th o)) rfl (Blk.drew (endG x3 x4)) rfl (Blk.drew (endA x3 x4))) rfl ?_
        rw [HDO.out, if_pos HE0.out.symm]
        exact ⟨_, rfl, ⟨_, _, rfl, (endR HGR1.out x3 x4 (by unfold tNod; decide) (by unfold tNod; decide)).out, (endR HGR2.out x3 x4 (by unfold tRow; decide) (by unfold tRow; decide)).out⟩, (endU x5).drew⟩
      · have hxb : (x != 0) = true := bne_iff_ne.2 hx0
        have HX := Lib.hid hx0
        clear hKf hPhi hx0
        have hbx := HB6.out
        obtain ⟨x1, x2, x3, x4, x5, x6⟩ := hbx
        have c1' := x1.cell
        have l1' := x1.lt
        have c3' := x3.cell
        have f3' := x3.frozen
        have l3' := x3.lt
        have c4' := x4.cell
        have f4' := x4.frozen
        have l4' := x4.lt
        clear x1 x2 x3 x4 x5 x6
        go_wp2_with (fail)
        obtain ⟨x1, x2, x3, x4, x5, x6⟩ := HB6.out
        refine bodyPost_ret (ret_do rfl _ _ (w.heap.size + 1 + 1) (w.heap.size + 1 + 1 + 1) (.slice An m cn) (.slice Ab n cb) (.int .i64 x) (.int .u64 0) (.bool false) rfl (endG x3 x4) rfl (endA x3 x4)) rfl ?_
        rw [HDO.out, if_neg (by rw [← HE0.out]; exact HX.out)]
        exact ⟨_, by rw [← HE0.out]; rfl, HG.out.up (endU x5), endU x5⟩
  · have hbS := set16 _ _ _ _ _ _ _ _ _ _ _ _ _ _ _ _ (.slice A1 g.1.length c1) (.slice (some ⟨GS, 0, none⟩) g.2.length g.2.length) (.int .i64 th) (.int .i64 o.kd) (.int .i64 o.h) (.int .i64 o.i) (.int .i64 o.k) (.int .u64 o.v) (.int .i64 o.t) (.int .i64 o.l) (.int .u64 o.m) (.int .i64 0) (.int .i64 0) (.int .i64 0) (.int .u64 0) (.bool false) DZ
    have HB3 := Lib.hid (bxs16 HBz (D := W4.heap.size) B4.2.2.2.2.2 (.slice A1 g.1.length c1) (.slice (some ⟨GS, 0, none⟩) g.2.length g.2.length) (.int .i64 th) (.int .i64 o.kd) (.int .i64 o.h) (.int .i64 o.i) (.int .i64 o.k) (.int .u64 o.v) (.int .i64 o.t) (.int .i64 o.l) (.int .u64 o.m) (.int .i64 0) (.int .i64 0) (.int .i64 0) (.int .u64 0) (.bool false))
    have HS3 : Hid (St (w.heap.size + 1 + 1 + 1 + 1) W4.heap.size _ g th o kn0) := Lib.hid ⟨_, _, us, us2, BF, GS, BS, hbS, own16 (hO.le (Nat.le_trans B4.2.2.2.2.2 ((Up.refl W4).alloc _).drew.size)) DZ _ _ _ _ _ _ _ _ _ _ _ _ _ _ _ _, B4.2.2.2.2.2⟩
    clear hbS DZ DZc DZf DZl
    generalize ((((((((((((((((wz.setCell ⟨W4.heap.size, 0, none⟩ (.slice A1 g.1.length c1)).setCell ⟨W4.heap.size, 1, none⟩ (.slice (some ⟨GS, 0, none⟩) g.2.length g.2.length)).setCell ⟨W4.heap.size, 2, none⟩ (.int .i64 th)).setCell ⟨W4.heap.size, 3, none⟩ (.int .i64 o.kd)).setCell ⟨W4.heap.size, 4, none⟩ (.int .i64 o.h)).setCell ⟨W4.heap.size, 5, none⟩ (.int .i64 o.i)).setCell ⟨W4.heap.size, 6, none⟩ (.int .i64 o.k)).setCell ⟨W4.heap.size, 7, none⟩ (.int .u64 o.v)).setCell ⟨W4.heap.size, 8, none⟩ (.int .i64 o.t)).setCell ⟨W4.heap.size, 9, none⟩ (.int .i64 o.l)).setCell ⟨W4.heap.size, 10, none⟩ (.int .u64 o.m)).setCell ⟨W4.heap.size, 11, none⟩ (.int .i64 0)).setCell ⟨W4.heap.size, 12, none⟩ (.int .i64 0)).setCell ⟨W4.heap.size, 13, none⟩ (.int .i64 0)).setCell ⟨W4.heap.size, 14, none⟩ (.int .u64 0)).setCell ⟨W4.heap.size, 15, none⟩ (.bool false)) = w3 at *
    generalize hDD : W4.heap.size = D at *
    clear hDD BG BO BG1 BO1 U0 g1 g2 o1 o2 nD0 nD1 hO hz HB1 HB2 UZ
    have HBd := HB3.out.2.1.drew
    have HKD := Lib.hid (kinds_any D w3.drew)
    have oc1 := HBd.cell
    have ol1 := HBd.lt
    go_wp2_with (fail)
    go_region_with (go_at_call 31; (refine HKD.out.mono ?_); rintro e wk ⟨M, nM, Dm, rfl, hOm, hUk, hkk⟩; have hlook := look_p hOm hi hkk HKX.out; have HBk := HBd.up hUk; have oc2 := HBk.cell; have ol2 := HBk.lt)
    all_goals
      have HB5 := Lib.hid (HB3.out.up ((Up.refl w3).drew.trans hUk))
      have HS5 := Lib.hid (HS3.out.up ((Up.refl w3).drew.trans hUk))
      clear oc1 ol1 oc2 ol2 HBd HBk hOm hkk hUk
      go_wp2_with (fail)
      refine (run_10 HK.out HKX.out HS5.out).mono ?_
      rintro e wl ⟨x, rfl, hKf, hPhi⟩
      have HB6 := Lib.hid (HB5.out.kf hKf)
      have HE0 := Lib.hid hPhi.1
      by_cases hx0 : x = 0
      · subst hx0
        have HPH := Lib.hid (hPhi.2 rfl)
        clear hKf hPhi
        obtain ⟨s, ⟨vn, vs, hDl, hr1, hr2⟩, hs1, hs2, hs3⟩ := HPH.out
        have HGR1 := Lib.hid hr1
        have HGR2 := Lib.hid hr2
        obtain ⟨An', cn', rfl, -⟩ := hr1.out.slice
        obtain ⟨Ab', cb', rfl, -⟩ := hr2.out.slice
        have hbx := HB6.out
        obtain ⟨x1, x2, x3, x4, x5, x6⟩ := hbx
        have HDL := Lib.hid hDl
        have cD := hDl.cell
        unfold dcs at cD
        rw [hs1, hs2, hs3] at cD
        have lD := hDl.lt
        have c3' := x3.cell
        have f3' := x3.frozen
        have l3' := x3.lt
        have c4' := x4.cell
        have f4' := x4.frozen
        have l4' := x4.lt
        clear x1 x2 x3 x4 x5 x6 hDl hr1 hr2
        generalize (newG g th o).1.length = m' at *
        generalize (newG g th o).2.length = n' at *
        go_wp2_with (fail)
        go_region
        go_wp2_with (fail)
        obtain ⟨x1, x2, x3, x4, x5, x6⟩ := HB6.out
        refine bodyPost_ret (ret_do rfl _ _ (w.heap.size + 1 + 1) (w.heap.size + 1 + 1 + 1) (.slice An' m' cn') (.slice Ab' n' cb') (.int .i64 0) (.int .u64 (ansV g th o)) (.bool (ansY g th o)) rfl (Blk.drew (endG x3 x4)) rfl (Blk.drew (endA x3 x4))) rfl ?_
        rw [HDO.out, if_pos HE0.out.symm]
        exact ⟨_, rfl, ⟨_, _, rfl, (endR HGR1.out x3 x4 (by unfold tNod; decide) (by unfold tNod; decide)).out, (endR HGR2.out x3 x4 (by unfold tRow; decide) (by unfold tRow; decide)).out⟩, (endU x5).drew⟩
      · have hxb : (x != 0) = true := bne_iff_ne.2 hx0
        have HX := Lib.hid hx0
        clear hKf hPhi hx0
        have hbx := HB6.out
        obtain ⟨x1, x2, x3, x4, x5, x6⟩ := hbx
        have c1' := x1.cell
        have l1' := x1.lt
        have c3' := x3.cell
        have f3' := x3.frozen
        have l3' := x3.lt
        have c4' := x4.cell
        have f4' := x4.frozen
        have l4' := x4.lt
        clear x1 x2 x3 x4 x5 x6
        go_wp2_with (fail)
        obtain ⟨x1, x2, x3, x4, x5, x6⟩ := HB6.out
        refine bodyPost_ret (ret_do rfl _ _ (w.heap.size + 1 + 1) (w.heap.size + 1 + 1 + 1) (.slice An m cn) (.slice Ab n cb) (.int .i64 x) (.int .u64 0) (.bool false) rfl (endG x3 x4) rfl (endA x3 x4)) rfl ?_
        rw [HDO.out, if_neg (by rw [← HE0.out]; exact HX.out)]
        exact ⟨_, by rw [← HE0.out]; rfl, HG.out.up (endU x5), endU x5⟩

theorem inord_stp {base D B : Nat} {Φ : Int → World → Prop} {fs : List FuncId} {w : World} (hr : Run base D Φ fs w) (h8 : fs.length ≤ 8) (h : (fs = [] ∧ Blk w B 105 #[.slice none 0 0]) ∨ ∃ G, Blk w B 105 #[.slice (some ⟨G, 0, none⟩) fs.length fs.length] ∧ Blk w G 71 (fs.map (fnm D)).toArray) :
    Calls Try.prog 76 #[.pointer (some ⟨B, 0, none⟩)] w (RunP base Φ w) := by
  rcases h with ⟨rfl, h⟩ | ⟨G, h1, h2⟩
  · exact inord_nil base Φ B w h hr
  · exact inord_any base D Φ fs _ rfl h8 B G w h1 h2 hr

set_option maxRecDepth 100000 in
set_option maxHeartbeats 4000000 in
theorem do_s (va vb : Value) (g : Gr) (th : Int) (o : Op) (w : World) (hg : GrV w (.agg #[va, vb]) g) (hk : DoOk g th o) (hF : FitG g) (hi : I64 o.kd) (fs : List FuncId) (hf8 : fs.length ≤ 8) (hkd : o.kd ≠ 10 ∧ kfs o.kd = some fs) (hrun : ∀ D w3, St (w.heap.size + 1 + 1 + 1 + 1) D w3 g th o kn0 → Run (w.heap.size + 1 + 1 + 1 + 1) D (Phi g th o D) fs w3) : Calls Try.prog 18 #[.agg #[va, vb], .int .i64 th, opv o] w (DoPost (doG g th o) w) := by
  have HKX := Lib.hid hkd
  clear hkd
  have HRUN := Lib.hid hrun
  clear hrun
  have HG := Lib.hid hg
  have HK := Lib.hid hk
  have HCP := Lib.hid (fun w' (u : Up w w') => copied_any (.agg #[va, vb]) g w' (hg.up u) hF)
  obtain ⟨_, _, e, hns, hrw⟩ := hg
  cases e
  obtain ⟨An, cn, rfl, -⟩ := hns.slice
  obtain ⟨Ab, cb, rfl, hm⟩ := hrw.slice
  unfold maxLen at hm
  obtain ⟨ht0, ht1⟩ := hk.th
  have d0 : decide (th < 0) = false := decide_eq_false (by omega)
  have d1 : decide (th ≥ (g.2.length : Int)) = false := decide_eq_false (by omega)
  have HDO : Hid (doG g th o = if errG g th o = 0 then (newG g th o, (0, ansV g th o, ansY g th o)) else (g, (errG g th o, 0, false))) := Lib.hid (by unfold doG; rw [if_pos hk.th])
  clear hns hrw hk hF ht0 ht1
  generalize g.2.length = n at *
  generalize g.1.length = m at *
  unfold opv
  go_enter Try.func18, Try.ntmps18
  go_wp2_with (fail)
  have B4 : Bxs w (.slice An m cn) (.slice Ab n cb) o ((((w.alloc (.cells #[.slice An m cn, .slice Ab n cb] 25)).alloc (.cells #[.int .i64 o.kd, .int .i64 o.h, .int .i64 o.i, .int .i64 o.k, .int .u64 o.v, .int .i64 o.t, .int .i64 o.l, .int .u64 o.m] 30)).alloc (.cells #[.slice none 0 0, .slice none 0 0] 25)).alloc (.cells #[.int .i64 0, .int .u64 0, .bool false] 39)) :=
    ⟨(((Blk.new w _ _).alloc _).alloc _).alloc _, ((Blk.new' (w.alloc _) (by simp) _ _).alloc _).alloc _, Blk.alloc (Blk.new' ((w.alloc _).alloc _) (by simp) _ _) _, Blk.new' (((w.alloc _).alloc _).alloc _) (by simp) _ _, ((((Up.refl w).alloc _).alloc _).alloc _).alloc _, by simp⟩
  generalize ((((w.alloc (.cells #[.slice An m cn, .slice Ab n cb] 25)).alloc (.cells #[.int .i64 o.kd, .int .i64 o.h, .int .i64 o.i, .int .i64 o.k, .int .u64 o.v, .int .i64 o.t, .int .i64 o.l, .int .u64 o.m] 30)).alloc (.cells #[.slice none 0 0, .slice none 0 0] 25)).alloc (.cells #[.int .i64 0, .int .u64 0, .bool false] 39)) = W4 at *
  have g1 := B4.1.cell
  have g2 := B4.1.lt
  have o1 := B4.2.1.cell
  have o2 := B4.2.1.lt
  have nD0 : w.heap.size ≠ W4.heap.size := Nat.ne_of_lt g2
  have nD1 : w.heap.size + 1 ≠ W4.heap.size := Nat.ne_of_lt o2
  have BG := B4.1.drew
  have BO := B4.2.1.drew
  have BG1 := B4.1
  have BO1 := B4.2.1
  have U0 := Up.refl W4.drew
  go_region_held3 (fun w' => (∀ i, w'.cell? ⟨w.heap.size, i, none⟩ = (#[.slice An m cn, .slice Ab n cb] : Array Value)[i]?) ∧ (∀ i, w'.cell? ⟨w.heap.size + 1, i, none⟩ = (#[.int .i64 o.kd, .int .i64 o.h, .int .i64 o.i, .int .i64 o.k, .int .u64 o.v, .int .i64 o.t, .int .i64 o.l, .int .u64 o.m] : Array Value)[i]?))
    (first
      | with_reducible exact ⟨fun i => (Blk.up BG (by assumption)).cell i, fun i => (Blk.up BO (by assumption)).cell i⟩
      | with_reducible exact ⟨fun i => (BG1.alloc _).drew.cell i, fun i => (BO1.alloc _).drew.cell i⟩
      | with_reducible exact ⟨fun i => (HB1.alloc _).cell i, fun i => (HB2.alloc _).cell i⟩
      | with_reducible exact ⟨fun i => (far16 HB1 nD0 _ _ _ _ _ _ _ _ _ _ _ _ _ _ _ _).cell i, fun i => (far16 HB2 nD1 _ _ _ _ _ _ _ _ _ _ _ _ _ _ _ _).cell i⟩)
    ((go_at_call 30; (refine (HCP.out _ (by first | exact B4.2.2.2.2.1.drew | exact (B4.2.2.2.2.1.alloc _).drew | exact B4.2.2.2.2.1.drew.alloc _)).mono ?_); rintro e wz ⟨vn, vs, us, us2, BF, GS, BS, rfl, hO, hz⟩; have hON := hO.nodes; have hOV := hO.val; obtain ⟨A1, c1, rfl⟩ := own_slice hON; subst hOV; clear hON; have HBz : Bxs w (.slice An m cn) (.slice Ab n cb) o wz := (by first | exact B4.up (Up.trans (Up.refl W4).drew hz) | exact B4.up (Up.trans ((Up.refl W4).alloc _).drew hz)); have HB1 := HBz.1; have HB2 := HBz.2.1; have UZ : Up W4.drew wz := (by first | exact hz | exact Up.trans ((Up.refl W4.drew).alloc _) hz); (try (have DZ := Blk.up (Blk.drew (Blk.new W4 70 _)) hz; have DZc := DZ.cell; have DZf := DZ.frozen; have DZl := DZ.lt))))
  · have HB3 := Lib.hid (HBz.up ((Up.refl wz).alloc (.cells (dcs (.slice A1 g.1.length c1) (.slice (some ⟨GS, 0, none⟩) g.2.length g.2.length) th o kn0) 70)))
    have HS3 : Hid (St (w.heap.size + 1 + 1 + 1 + 1) wz.heap.size (wz.alloc (.cells (dcs (.slice A1 g.1.length c1) (.slice (some ⟨GS, 0, none⟩) g.2.length g.2.length) th o kn0) 70)) g th o kn0) := Lib.hid
      ⟨_, _, us, us2, BF, GS, BS, Blk.new wz _ _, (hO.le B4.2.2.2.2.2).up ((Up.refl wz).alloc _), HBz.2.2.2.2.2⟩
    unfold dcs at HB3 HS3
    generalize wz.alloc (.cells #[.slice A1 g.1.length c1, .slice (some ⟨GS, 0, none⟩) g.2.length g.2.length, .int .i64 th, .int .i64 o.kd, .int .i64 o.h, .int .i64 o.i, .int .i64 o.k, .int .u64 o.v, .int .i64 o.t, .int .i64 o.l, .int .u64 o.m, .int .i64 0, .int .i64 0, .int .i64 0, .int .u64 0, .bool false] 70) = w3 at *
    generalize hDD : wz.heap.size = D at *
    clear hDD BG BO BG1 BO1 U0 g1 g2 o1 o2 nD0 nD1 hO hz HB1 HB2 UZ
    have HBd := HB3.out.2.1.drew
    have HKD := Lib.hid (kinds_any D w3.drew)
    have oc1 := HBd.cell
    have ol1 := HBd.lt
    go_wp2_with (fail)
    go_region_with (go_at_call 31; (refine HKD.out.mono ?_); rintro e wk ⟨M, nM, Dm, rfl, hOm, hUk, hkk⟩; obtain ⟨BB, hlook, hst⟩ := look_s hOm hi hkk HKX.out; have HT := Lib.hid hst; clear hst; have HBk := HBd.up hUk; have oc2 := HBk.cell; have ol2 := HBk.lt)
    all_goals
      have HB5 := Lib.hid (HB3.out.up ((Up.refl w3).drew.trans hUk))
      have HS5 := Lib.hid (HS3.out.up ((Up.refl w3).drew.trans hUk))
      clear oc1 ol1 oc2 ol2 HBd HBk hOm hkk hUk
      go_wp2_with (fail)
      refine (inord_stp (HRUN.out _ _ HS5.out) hf8 HT.out).mono ?_
      rintro e wl ⟨x, rfl, hKf, hPhi⟩
      have HB6 := Lib.hid (HB5.out.kf hKf)
      have HE0 := Lib.hid hPhi.1
      by_cases hx0 : x = 0
      · subst hx0
        have HPH := Lib.hid (hPhi.2 rfl)
        clear hKf hPhi
        obtain ⟨s, ⟨vn, vs, hDl, hr1, hr2⟩, hs1, hs2, hs3⟩ := HPH.out
        have HGR1 := Lib.hid hr1
        have HGR2 := Lib.hid hr2
        obtain ⟨An', cn', rfl, -⟩ := hr1.out.slice
        obtain ⟨Ab', cb', rfl, -⟩ := hr2.out.slice
        have hbx := HB6.out
        obtain ⟨x1, x2, x3, x4, x5, x6⟩ := hbx
        have HDL := Lib.hid hDl
        have cD := hDl.cell
        unfold dcs at cD
        rw [hs1, hs2, hs3] at cD
        have lD := hDl.lt
        have c3' := x3.cell
        have f3' := x3.frozen
        have l3' := x3.lt
        have c4' := x4.cell
        have f4' := x4.frozen
        have l4' := x4.lt
        clear x1 x2 x3 x4 x5 x6 hDl hr1 hr2
        generalize (newG g th o).1.length = m' at *
        generalize (newG g th o).2.length = n' at *
        go_wp2_with (fail)
        go_region
        go_wp2_with (fail)
        obtain ⟨x1, x2, x3, x4, x5, x6⟩ := HB6.out
        refine bodyPost_ret (ret_do rfl _ _ (w.heap.size + 1 + 1) (w.heap.size + 1 + 1 + 1) (.slice An' m' cn') (.slice Ab' n' cb') (.int .i64 0) (.int .u64 (ansV g th o)) (.bool (ansY g th o)) rfl (Blk.drew (endG x3 x4)) rfl (Blk.drew (endA x3 x4))) rfl ?_
        rw [HDO.out, if_pos HE0.out.symm]
        exact ⟨_, rfl, ⟨_, _, rfl, (endR HGR1.out x3 x4 (by unfold tNod; decide) (by unfold tNod; decide)).out, (endR HGR2.out x3 x4 (by unfold tRow; decide) (by unfold tRow; decide)).out⟩, (endU x5).drew⟩
      · have hxb : (x != 0) = true := bne_iff_ne.2 hx0
        have HX := Lib.hid hx0
        clear hKf hPhi hx0
        have hbx := HB6.out
        obtain ⟨x1, x2, x3, x4, x5, x6⟩ := hbx
        have c1' := x1.cell
        have l1' := x1.lt
        have c3' := x3.cell
        have f3' := x3.frozen
        have l3' := x3.lt
        have c4' := x4.cell
        have f4' := x4.frozen
        have l4' := x4.lt
        clear x1 x2 x3 x4 x5 x6
        go_wp2_with (fail)
        obtain ⟨x1, x2, x3, x4, x5, x6⟩ := HB6.out
        refine bodyPost_ret (ret_do rfl _ _ (w.heap.size + 1 + 1) (w.heap.size + 1 + 1 + 1) (.slice An m cn) (.slice Ab n cb) (.int .i64 x) (.int .u64 0) (.bool false) rfl (endG x3 x4) rfl (endA x3 x4)) rfl ?_
        rw [HDO.out, if_neg (by rw [← HE0.out]; exact HX.out)]
        exact ⟨_, by rw [← HE0.out]; rfl, HG.out.up (endU x5), endU x5⟩
  · have hbS := set16 _ _ _ _ _ _ _ _ _ _ _ _ _ _ _ _ (.slice A1 g.1.length c1) (.slice (some ⟨GS, 0, none⟩) g.2.length g.2.length) (.int .i64 th) (.int .i64 o.kd) (.int .i64 o.h) (.int .i64 o.i) (.int .i64 o.k) (.int .u64 o.v) (.int .i64 o.t) (.int .i64 o.l) (.int .u64 o.m) (.int .i64 0) (.int .i64 0) (.int .i64 0) (.int .u64 0) (.bool false) DZ
    have HB3 := Lib.hid (bxs16 HBz (D := W4.heap.size) B4.2.2.2.2.2 (.slice A1 g.1.length c1) (.slice (some ⟨GS, 0, none⟩) g.2.length g.2.length) (.int .i64 th) (.int .i64 o.kd) (.int .i64 o.h) (.int .i64 o.i) (.int .i64 o.k) (.int .u64 o.v) (.int .i64 o.t) (.int .i64 o.l) (.int .u64 o.m) (.int .i64 0) (.int .i64 0) (.int .i64 0) (.int .u64 0) (.bool false))
    have HS3 : Hid (St (w.heap.size + 1 + 1 + 1 + 1) W4.heap.size _ g th o kn0) := Lib.hid ⟨_, _, us, us2, BF, GS, BS, hbS, own16 (hO.le (Nat.le_trans B4.2.2.2.2.2 ((Up.refl W4).alloc _).drew.size)) DZ _ _ _ _ _ _ _ _ _ _ _ _ _ _ _ _, B4.2.2.2.2.2⟩
    clear hbS DZ DZc DZf DZl
    generalize ((((((((((((((((wz.setCell ⟨W4.heap.size, 0, none⟩ (.slice A1 g.1.length c1)).setCell ⟨W4.heap.size, 1, none⟩ (.slice (some ⟨GS, 0, none⟩) g.2.length g.2.length)).setCell ⟨W4.heap.size, 2, none⟩ (.int .i64 th)).setCell ⟨W4.heap.size, 3, none⟩ (.int .i64 o.kd)).setCell ⟨W4.heap.size, 4, none⟩ (.int .i64 o.h)).setCell ⟨W4.heap.size, 5, none⟩ (.int .i64 o.i)).setCell ⟨W4.heap.size, 6, none⟩ (.int .i64 o.k)).setCell ⟨W4.heap.size, 7, none⟩ (.int .u64 o.v)).setCell ⟨W4.heap.size, 8, none⟩ (.int .i64 o.t)).setCell ⟨W4.heap.size, 9, none⟩ (.int .i64 o.l)).setCell ⟨W4.heap.size, 10, none⟩ (.int .u64 o.m)).setCell ⟨W4.heap.size, 11, none⟩ (.int .i64 0)).setCell ⟨W4.heap.size, 12, none⟩ (.int .i64 0)).setCell ⟨W4.heap.size, 13, none⟩ (.int .i64 0)).setCell ⟨W4.heap.size, 14, none⟩ (.int .u64 0)).setCell ⟨W4.heap.size, 15, none⟩ (.bool false)) = w3 at *
    generalize hDD : W4.heap.size = D at *
    clear hDD BG BO BG1 BO1 U0 g1 g2 o1 o2 nD0 nD1 hO hz HB1 HB2 UZ
    have HBd := HB3.out.2.1.drew
    have HKD := Lib.hid (kinds_any D w3.drew)
    have oc1 := HBd.cell
    have ol1 := HBd.lt
    go_wp2_with (fail)
    go_region_with (go_at_call 31; (refine HKD.out.mono ?_); rintro e wk ⟨M, nM, Dm, rfl, hOm, hUk, hkk⟩; obtain ⟨BB, hlook, hst⟩ := look_s hOm hi hkk HKX.out; have HT := Lib.hid hst; clear hst; have HBk := HBd.up hUk; have oc2 := HBk.cell; have ol2 := HBk.lt)
    all_goals
      have HB5 := Lib.hid (HB3.out.up ((Up.refl w3).drew.trans hUk))
      have HS5 := Lib.hid (HS3.out.up ((Up.refl w3).drew.trans hUk))
      clear oc1 ol1 oc2 ol2 HBd HBk hOm hkk hUk
      go_wp2_with (fail)
      refine (inord_stp (HRUN.out _ _ HS5.out) hf8 HT.out).mono ?_
      rintro e wl ⟨x, rfl, hKf, hPhi⟩
      have HB6 := Lib.hid (HB5.out.kf hKf)
      have HE0 := Lib.hid hPhi.1
      by_cases hx0 : x = 0
      · subst hx0
        have HPH := Lib.hid (hPhi.2 rfl)
        clear hKf hPhi
        obtain ⟨s, ⟨vn, vs, hDl, hr1, hr2⟩, hs1, hs2, hs3⟩ := HPH.out
        have HGR1 := Lib.hid hr1
        have HGR2 := Lib.hid hr2
        obtain ⟨An', cn', rfl, -⟩ := hr1.out.slice
        obtain ⟨Ab', cb', rfl, -⟩ := hr2.out.slice
        have hbx := HB6.out
        obtain ⟨x1, x2, x3, x4, x5, x6⟩ := hbx
        have HDL := Lib.hid hDl
        have cD := hDl.cell
        unfold dcs at cD
        rw [hs1, hs2, hs3] at cD
        have lD := hDl.lt
        have c3' := x3.cell
        have f3' := x3.frozen
        have l3' := x3.lt
        have c4' := x4.cell
        have f4' := x4.frozen
        have l4' := x4.lt
        clear x1 x2 x3 x4 x5 x6 hDl hr1 hr2
        generalize (newG g th o).1.length = m' at *
        generalize (newG g th o).2.length = n' at *
        go_wp2_with (fail)
        go_region
        go_wp2_with (fail)
        obtain ⟨x1, x2, x3, x4, x5, x6⟩ := HB6.out
        refine bodyPost_ret (ret_do rfl _ _ (w.heap.size + 1 + 1) (w.heap.size + 1 + 1 + 1) (.slice An' m' cn') (.slice Ab' n' cb') (.int .i64 0) (.int .u64 (ansV g th o)) (.bool (ansY g th o)) rfl (Blk.drew (endG x3 x4)) rfl (Blk.drew (endA x3 x4))) rfl ?_
        rw [HDO.out, if_pos HE0.out.symm]
        exact ⟨_, rfl, ⟨_, _, rfl, (endR HGR1.out x3 x4 (by unfold tNod; decide) (by unfold tNod; decide)).out, (endR HGR2.out x3 x4 (by unfold tRow; decide) (by unfold tRow; decide)).out⟩, (endU x5).drew⟩
      · have hxb : (x != 0) = true := bne_iff_ne.2 hx0
        have HX := Lib.hid hx0
        clear hKf hPhi hx0
        have hbx := HB6.out
        obtain ⟨x1, x2, x3, x4, x5, x6⟩ := hbx
        have c1' := x1.cell
        have l1' := x1.lt
        have c3' := x3.cell
        have f3' := x3.frozen
        have l3' := x3.lt
        have c4' := x4.cell
        have f4' := x4.frozen
        have l4' := x4.lt
        clear x1 x2 x3 x4 x5 x6
        go_wp2_with (fail)
        obtain ⟨x1, x2, x3, x4, x5, x6⟩ := HB6.out
        refine bodyPost_ret (ret_do rfl _ _ (w.heap.size + 1 + 1) (w.heap.size + 1 + 1 + 1) (.slice An m cn) (.slice Ab n cb) (.int .i64 x) (.int .u64 0) (.bool false) rfl (endG x3 x4) rfl (endA x3 x4)) rfl ?_
        rw [HDO.out, if_neg (by rw [← HE0.out]; exact HX.out)]
        exact ⟨_, by rw [← HE0.out]; rfl, HG.out.up (endU x5), endU x5⟩

theorem do_any (v : Value) (g : Gr) (th : Int) (o : Op) (w : World) (hg : GrV w v g) (hR : Rg g) (hn : g.1.length ≤ 1000000) (hF : FitG g) (hi : I64 o.kd) (hv : U64 o.v) (hm : U64 o.m) : Calls Try.prog 18 #[v, .int .i64 th, opv o] w (DoPost (doG g th o) w) := by
  obtain ⟨va, vb, rfl, h1, h2⟩ := hg
  have hg : GrV w (.agg #[va, vb]) g := ⟨va, vb, rfl, h1, h2⟩
  by_cases ht : isTh g th
  · have hk : DoOk g th o := ⟨hR, hn, ht, hv, hm⟩
    by_cases h10 : o.kd = 10
    · exact do_p va vb g th o w hg hk hF hi h10
    by_cases h0 : o.kd < 1 ∨ 11 < o.kd
    · exact do_o va vb g th o w hg hk hF hi h0
    have h : o.kd = 1 ∨ o.kd = 2 ∨ o.kd = 3 ∨ (o.kd = 4 ∨ o.kd = 6 ∨ o.kd = 7) ∨ o.kd = 5 ∨ o.kd = 8 ∨ o.kd = 9 ∨ o.kd = 11 := by omega
    rcases h with h | h | h | h | h | h | h | h
    · exact do_s va vb g th o w hg hk hF hi _ (by decide) ⟨h10, by rw [h]; rfl⟩ (fun D w3 hS => run_1 hk h hS)
    · exact do_s va vb g th o w hg hk hF hi _ (by decide) ⟨h10, by rw [h]; rfl⟩ (fun D w3 hS => run_2 hk h hS)
    · exact do_s va vb g th o w hg hk hF hi _ (by decide) ⟨h10, by rw [h]; rfl⟩ (fun D w3 hS => run_3 hk h hS)
    · exact do_s va vb g th o w hg hk hF hi _ (by decide) ⟨h10, by rcases h with h | h | h <;> rw [h] <;> rfl⟩ (fun D w3 hS => run_467 hk h hS)
    · exact do_s va vb g th o w hg hk hF hi _ (by decide) ⟨h10, by rw [h]; rfl⟩ (fun D w3 hS => run_5 hk h hS)
    · exact do_s va vb g th o w hg hk hF hi _ (by decide) ⟨h10, by rw [h]; rfl⟩ (fun D w3 hS => run_8 hk h hS)
    · exact do_s va vb g th o w hg hk hF hi _ (by decide) ⟨h10, by rw [h]; rfl⟩ (fun D w3 hS => run_9 hk h hS)
    · exact do_s va vb g th o w hg hk hF hi [] (by decide) ⟨h10, by rw [h]; rfl⟩ (fun D w3 hS => run_11 h hS)
  · have e : doG g th o = (g, (1, 0, false)) := by unfold doG; rw [if_neg ht]
    rw [e]
    exact do_arg va vb g th o w hg ht
end Go.Proofs.Ytlocllcijncllaa
