/- What is to be done, by its kind: a map of rows of closures (act's step: kinds): contract. -/
import Derived.Test.YtddoljfkbkbfjaaGreatTf
import Derived.Maps.Own
import Derived.Maps.OwnSet
namespace Go.Proofs.YtddoljfkbkbfjaaGreat.T
open G
open Go.Joins Go.ChangeShapes Go.WideShapes Go.ChangeAt Go.RowKit Go.Deep Go.Shelf Go.Maps
set_option linter.unusedVariables false
set_option linter.unusedSimpArgs false

/-- A closure: the function, what is bound, what is captured. -/
abbrev Clo3 := FuncId × Array Value × Array Value
abbrev cv3 (c : Clo3) : Value := .func (.func c.1) c.2.1 c.2.2
abbrev fmv (D : Nat) (f : FuncId) : Clo3 := (f, #[.pointer (some ⟨D, 0, none⟩)], #[])
abbrev fcv (B : Nat) (f : FuncId) : Clo3 := (f, #[], #[.pointer (some ⟨B, 0, none⟩)])
abbrev fnv5 : Clo3 := (89, #[], #[])
/-- What is to be done for a kind. -/
def krow (D B : Nat) (kd : Int) : Option (List Clo3) :=
  if kd = 1 then some [fmv D 77, fmv D 78, fmv D 79] else if kd = 2 then some [fmv D 74, fmv D 75, fcv B 80] else if kd = 3 then some [fmv D 74, fmv D 81, fcv B 82] else if kd = 4 ∨ kd = 6 ∨ kd = 7 then some [fmv D 74, fmv D 75, fmv D 76]
  else if kd = 5 then some [fmv D 74, fmv D 81, fmv D 84, fmv D 76] else if kd = 8 then some [fmv D 85, fmv D 84, fcv B 86] else if kd = 9 then some [fmv D 85, fcv B 87] else if kd = 10 then some [fmv D 88] else if kd = 11 then some [fnv5] else none
/-- A function is read as itself. -/
def RF (v : Value) : Option (DataW Value × List MemPlace) := some (.held v, [])
abbrev OwnF (w : World) (M n : Nat) (D : DataW Value) : Prop := w.ownsMap Tryz.prog 3 RF M n D
theorem lawI : Keyed Tryz.prog 3 := int_keyed Tryz.underlying3
theorem key_i {k : Int} (h : I64 k) : keyOf Tryz.prog 3 (.int .i64 k) = some (.int .i64 k) := keyOf_int_mk Tryz.underlying3 (by
  have e : IntKind.i64.min = -9223372036854775808 := by decide
  have e2 : IntKind.i64.max = 9223372036854775807 := by decide
  simp [Lit.wf, e, e2]
  exact h)
theorem ins_f {w : World} {M n : Nat} {D : DataW Value} (hown : OwnF w M n D) (hn : n < 1000) (k : Int) (hk : I64 k) (val : Value) : ∃ w', (Instr.mapUpdate 112 (.map (some M)) (.int .i64 k) val).run Tryz.prog w = .ok () w' ∧ OwnF w' M (n + 1) (D.put (.int .i64 k) (.held val)) ∧ w.grownBy w' (some M) :=
  hown.update lawI Tryz.underlying112 (by unfold maxLen; omega) (key_i hk) (val := val) (d := .held val) (ps := []) rfl
theorem blk_map {w w' : World} {M n g : Nat} {D : DataW Value} {t : TypeId} {cs : Array Value} (h : Blk w g t cs) (ho : OwnF w M n D) (hg : w.grownBy w' (some M)) : Blk w' g t cs :=
  h.grown hg (fun e => by
    cases e
    obtain ⟨es, clock, hb, _⟩ := ho
    unfold Blk at h
    rw [hb] at h
    cases h)
def got (D : DataW Value) (kd : Int) (v : Option Value) : Prop := Maps.has D (.int .i64 kd) = v.isSome ∧ ∀ u, v = some u → ∀ z, D.atKey (.int .i64 kd) z = .held u
theorem isKey (k : Int) : WideAt.IsKeyLit (.int .i64 k) := by first | trivial | exact ⟨⟩ | simp [WideAt.IsKeyLit]
theorem got_same {D : DataW Value} (h : IsMap D) (k : Int) (v : Value) : got (D.put (.int .i64 k) (.held v)) k (some v) := ⟨by rw [has_put_same h (isKey k)]; rfl, fun u e z => by cases e; exact atKey_put_same h (isKey k) _ _⟩
theorem got_other {D : DataW Value} {k k' : Int} {v : Value} {u : Option Value} (hne : k' ≠ k) (h : got D k' u) : got (D.put (.int .i64 k) (.held v)) k' u := by
  have hl : (Lit.int .i64 k') ≠ (Lit.int .i64 k) := fun e => hne (by cases e; rfl)
  exact ⟨by rw [has_put_other hl]; exact h.1, fun x e z => by rw [atKey_put_other hl]; exact h.2 x e z⟩
theorem got_none (kd : Int) : got (.map []) kd none := ⟨rfl, fun u e => by cases e⟩
/-- What stands in the map at a kind. -/
def Kat (w : World) (D B : Nat) (kd : Int) (v : Option Value) : Prop := match krow D B kd with
  | some cs => ∃ G, v = some (.slice (some ⟨G, 0, none⟩) cs.length cs.length) ∧ Blk w G 114 (cs.map cv3).toArray
  | none => v = none
def KdPost (D : Nat) (w : World) (e : Ending) (w' : World) : Prop := ∃ M n Dm B, e = .returned (.map (some M)) ∧ OwnF w' M n Dm ∧ Up w w' ∧ Blk w' B 74 #[.pointer (some ⟨D, 0, none⟩)] ∧ ∀ kd, ∃ v, got Dm kd v ∧ Kat w' D B kd v
theorem halt_w {P : Program} {ops : Array Oper} {rest : List Oper} {a : Act} {w : World} {Q : Exit → Act → World → Prop} (h : ∀ W, W = w → wpList P ops Q rest a W) : Halt (wpList P ops Q rest a w) := h w rfl
set_option maxRecDepth 100000 in
set_option maxHeartbeats 8000000 in
theorem kinds_any (D : Nat) (w : World) : Calls Tryz.prog 54 #[.pointer (some ⟨D, 0, none⟩)] w (KdPost D w) := by
  have hmm := @run_makeMap Tryz.prog
  go_enter Tryz.func54, Tryz.ntmps54
  go_wp2_with (with_reducible refine halt_at (o := ⟨some 12, _, _, _, _, _⟩) ?_)
  refine halt_w (fun W hW => ?_)
  have bx : Blk W w.heap.size 74 #[.pointer (some ⟨D, 0, none⟩)] := by rw [hW]; exact ((Blk.new' w rfl _ _).alloc _).alloc _
  have sw : Blk W (w.heap.size + 1) 114 #[.func (.func 74) #[.pointer (some ⟨D, 0, none⟩)] #[], .func (.func 75) #[.pointer (some ⟨D, 0, none⟩)] #[], .func (.func 76) #[.pointer (some ⟨D, 0, none⟩)] #[]] := by rw [hW]; exact (Blk.new' _ (by simp) _ _).alloc _
  have O := Lib.hid (World.ownsMap_made (w.alloc (.cells #[.pointer (some ⟨D, 0, none⟩)] 74) |>.alloc (.cells #[.func (.func 74) #[.pointer (some ⟨D, 0, none⟩)] #[], .func (.func 75) #[.pointer (some ⟨D, 0, none⟩)] #[], .func (.func 76) #[.pointer (some ⟨D, 0, none⟩)] #[]] 114)) Tryz.prog 3 RF)
  rw [World.size_alloc, World.size_alloc] at O
  have O : Hid (OwnF W (w.heap.size + 1 + 1) 0 (.map [])) := Lib.hid (by rw [hW]; exact O.out)
  have U : Up w W := by rw [hW]; exact (((Up.refl w).alloc _).alloc _).alloc _
  have HM : Hid (w.heap.size ≤ w.heap.size + 1 + 1) := Lib.hid (by omega)
  have bx := Lib.hid bx
  have sw := Lib.hid sw
  have U := Lib.hid U
  clear hW
  have bxc := bx.out.cell
  have bxl := bx.out.lt
  have s1 : Hid (Blk (W.alloc (.cells #[.func (.func 77) #[.pointer (some ⟨D, 0, none⟩)] #[], .func (.func 78) #[.pointer (some ⟨D, 0, none⟩)] #[], .func (.func 79) #[.pointer (some ⟨D, 0, none⟩)] #[]] 114)) W.heap.size 114 #[.func (.func 77) #[.pointer (some ⟨D, 0, none⟩)] #[], .func (.func 78) #[.pointer (some ⟨D, 0, none⟩)] #[], .func (.func 79) #[.pointer (some ⟨D, 0, none⟩)] #[]]) := Lib.hid (Blk.new W _ _)
  obtain ⟨W1, hr1, O', hg⟩ := ins_f (World.ownsMap.kept O.out ((Up.refl W).alloc (.cells #[.func (.func 77) #[.pointer (some ⟨D, 0, none⟩)] #[], .func (.func 78) #[.pointer (some ⟨D, 0, none⟩)] #[], .func (.func 79) #[.pointer (some ⟨D, 0, none⟩)] #[]] 114)).gb (by simp)) (by decide : 0 < 1000) 1 (by unfold I64; decide) (.slice (some ⟨W.heap.size, 0, none⟩) 3 3)
  have bx := Lib.hid (blk_map (bx.out.alloc _) (World.ownsMap.kept O.out ((Up.refl W).alloc (.cells #[.func (.func 77) #[.pointer (some ⟨D, 0, none⟩)] #[], .func (.func 78) #[.pointer (some ⟨D, 0, none⟩)] #[], .func (.func 79) #[.pointer (some ⟨D, 0, none⟩)] #[]] 114)).gb (by simp)) hg)
  have sw := Lib.hid (blk_map (sw.out.alloc _) (World.ownsMap.kept O.out ((Up.refl W).alloc (.cells #[.func (.func 77) #[.pointer (some ⟨D, 0, none⟩)] #[], .func (.func 78) #[.pointer (some ⟨D, 0, none⟩)] #[], .func (.func 79) #[.pointer (some ⟨D, 0, none⟩)] #[]] 114)).gb (by simp)) hg)
  have s1 := Lib.hid (blk_map s1.out (World.ownsMap.kept O.out ((Up.refl W).alloc (.cells #[.func (.func 77) #[.pointer (some ⟨D, 0, none⟩)] #[], .func (.func 78) #[.pointer (some ⟨D, 0, none⟩)] #[], .func (.func 79) #[.pointer (some ⟨D, 0, none⟩)] #[]] 114)).gb (by simp)) hg)
  have U := Lib.hid ((U.out.alloc _).grown hg (fun k e => by cases e; exact HM.out))
  replace O := Lib.hid O'
  clear O' hg
  go_wp2_with (with_reducible refine halt_at (o := ⟨some 19, _, _, _, _, _⟩) ?_)
  refine halt_w (fun Wz hWz => ?_)
  rw [hWz]
  clear hWz Wz
  clear hr1
  have bxc := bx.out.cell
  have bxl := bx.out.lt
  have s2 : Hid (Blk (W1.alloc (.cells #[.func (.func 74) #[.pointer (some ⟨D, 0, none⟩)] #[], .func (.func 75) #[.pointer (some ⟨D, 0, none⟩)] #[], .func (.func 80) #[] #[.pointer (some ⟨w.heap.size, 0, none⟩)]] 114)) W1.heap.size 114 #[.func (.func 74) #[.pointer (some ⟨D, 0, none⟩)] #[], .func (.func 75) #[.pointer (some ⟨D, 0, none⟩)] #[], .func (.func 80) #[] #[.pointer (some ⟨w.heap.size, 0, none⟩)]]) := Lib.hid (Blk.new W1 _ _)
  obtain ⟨W2, hr2, O', hg⟩ := ins_f (World.ownsMap.kept O.out ((Up.refl W1).alloc (.cells #[.func (.func 74) #[.pointer (some ⟨D, 0, none⟩)] #[], .func (.func 75) #[.pointer (some ⟨D, 0, none⟩)] #[], .func (.func 80) #[] #[.pointer (some ⟨w.heap.size, 0, none⟩)]] 114)).gb (by simp)) (by decide : 1 < 1000) 2 (by unfold I64; decide) (.slice (some ⟨W1.heap.size, 0, none⟩) 3 3)
  have bx := Lib.hid (blk_map (bx.out.alloc _) (World.ownsMap.kept O.out ((Up.refl W1).alloc (.cells #[.func (.func 74) #[.pointer (some ⟨D, 0, none⟩)] #[], .func (.func 75) #[.pointer (some ⟨D, 0, none⟩)] #[], .func (.func 80) #[] #[.pointer (some ⟨w.heap.size, 0, none⟩)]] 114)).gb (by simp)) hg)
  have sw := Lib.hid (blk_map (sw.out.alloc _) (World.ownsMap.kept O.out ((Up.refl W1).alloc (.cells #[.func (.func 74) #[.pointer (some ⟨D, 0, none⟩)] #[], .func (.func 75) #[.pointer (some ⟨D, 0, none⟩)] #[], .func (.func 80) #[] #[.pointer (some ⟨w.heap.size, 0, none⟩)]] 114)).gb (by simp)) hg)
  have s1 := Lib.hid (blk_map (s1.out.alloc _) (World.ownsMap.kept O.out ((Up.refl W1).alloc (.cells #[.func (.func 74) #[.pointer (some ⟨D, 0, none⟩)] #[], .func (.func 75) #[.pointer (some ⟨D, 0, none⟩)] #[], .func (.func 80) #[] #[.pointer (some ⟨w.heap.size, 0, none⟩)]] 114)).gb (by simp)) hg)
  have s2 := Lib.hid (blk_map s2.out (World.ownsMap.kept O.out ((Up.refl W1).alloc (.cells #[.func (.func 74) #[.pointer (some ⟨D, 0, none⟩)] #[], .func (.func 75) #[.pointer (some ⟨D, 0, none⟩)] #[], .func (.func 80) #[] #[.pointer (some ⟨w.heap.size, 0, none⟩)]] 114)).gb (by simp)) hg)
  have U := Lib.hid ((U.out.alloc _).grown hg (fun k e => by cases e; exact HM.out))
  replace O := Lib.hid O'
  clear O' hg
  go_wp2_with (with_reducible refine halt_at (o := ⟨some 25, _, _, _, _, _⟩) ?_)
  refine halt_w (fun Wz hWz => ?_)
  rw [hWz]
  clear hWz Wz
  clear hr2
  have bxc := bx.out.cell
  have bxl := bx.out.lt
  have s3 : Hid (Blk (W2.alloc (.cells #[.func (.func 74) #[.pointer (some ⟨D, 0, none⟩)] #[], .func (.func 81) #[.pointer (some ⟨D, 0, none⟩)] #[], .func (.func 82) #[] #[.pointer (some ⟨w.heap.size, 0, none⟩)]] 114)) W2.heap.size 114 #[.func (.func 74) #[.pointer (some ⟨D, 0, none⟩)] #[], .func (.func 81) #[.pointer (some ⟨D, 0, none⟩)] #[], .func (.func 82) #[] #[.pointer (some ⟨w.heap.size, 0, none⟩)]]) := Lib.hid (Blk.new W2 _ _)
  obtain ⟨W3, hr3, O', hg⟩ := ins_f (World.ownsMap.kept O.out ((Up.refl W2).alloc (.cells #[.func (.func 74) #[.pointer (some ⟨D, 0, none⟩)] #[], .func (.func 81) #[.pointer (some ⟨D, 0, none⟩)] #[], .func (.func 82) #[] #[.pointer (some ⟨w.heap.size, 0, none⟩)]] 114)).gb (by simp)) (by decide : 2 < 1000) 3 (by unfold I64; decide) (.slice (some ⟨W2.heap.size, 0, none⟩) 3 3)
  have bx := Lib.hid (blk_map (bx.out.alloc _) (World.ownsMap.kept O.out ((Up.refl W2).alloc (.cells #[.func (.func 74) #[.pointer (some ⟨D, 0, none⟩)] #[], .func (.func 81) #[.pointer (some ⟨D, 0, none⟩)] #[], .func (.func 82) #[] #[.pointer (some ⟨w.heap.size, 0, none⟩)]] 114)).gb (by simp)) hg)
  have sw := Lib.hid (blk_map (sw.out.alloc _) (World.ownsMap.kept O.out ((Up.refl W2).alloc (.cells #[.func (.func 74) #[.pointer (some ⟨D, 0, none⟩)] #[], .func (.func 81) #[.pointer (some ⟨D, 0, none⟩)] #[], .func (.func 82) #[] #[.pointer (some ⟨w.heap.size, 0, none⟩)]] 114)).gb (by simp)) hg)
  have s1 := Lib.hid (blk_map (s1.out.alloc _) (World.ownsMap.kept O.out ((Up.refl W2).alloc (.cells #[.func (.func 74) #[.pointer (some ⟨D, 0, none⟩)] #[], .func (.func 81) #[.pointer (some ⟨D, 0, none⟩)] #[], .func (.func 82) #[] #[.pointer (some ⟨w.heap.size, 0, none⟩)]] 114)).gb (by simp)) hg)
  have s2 := Lib.hid (blk_map (s2.out.alloc _) (World.ownsMap.kept O.out ((Up.refl W2).alloc (.cells #[.func (.func 74) #[.pointer (some ⟨D, 0, none⟩)] #[], .func (.func 81) #[.pointer (some ⟨D, 0, none⟩)] #[], .func (.func 82) #[] #[.pointer (some ⟨w.heap.size, 0, none⟩)]] 114)).gb (by simp)) hg)
  have s3 := Lib.hid (blk_map s3.out (World.ownsMap.kept O.out ((Up.refl W2).alloc (.cells #[.func (.func 74) #[.pointer (some ⟨D, 0, none⟩)] #[], .func (.func 81) #[.pointer (some ⟨D, 0, none⟩)] #[], .func (.func 82) #[] #[.pointer (some ⟨w.heap.size, 0, none⟩)]] 114)).gb (by simp)) hg)
  have U := Lib.hid ((U.out.alloc _).grown hg (fun k e => by cases e; exact HM.out))
  replace O := Lib.hid O'
  clear O' hg
  obtain ⟨W4, hr4, O', hg⟩ := ins_f O.out (by decide : 3 < 1000) 4 (by unfold I64; decide) (.slice (some ⟨w.heap.size + 1, 0, none⟩) 3 3)
  have bx := Lib.hid (blk_map bx.out O.out hg)
  have sw := Lib.hid (blk_map sw.out O.out hg)
  have s1 := Lib.hid (blk_map s1.out O.out hg)
  have s2 := Lib.hid (blk_map s2.out O.out hg)
  have s3 := Lib.hid (blk_map s3.out O.out hg)
  have U := Lib.hid (U.out.grown hg (fun k e => by cases e; exact HM.out))
  replace O := Lib.hid O'
  clear O' hg
  go_wp2_with (with_reducible refine halt_at (o := ⟨some 32, _, _, _, _, _⟩) ?_)
  refine halt_w (fun Wz hWz => ?_)
  rw [hWz]
  clear hWz Wz
  clear hr3 hr4
  have bxc := bx.out.cell
  have bxl := bx.out.lt
  have s5 : Hid (Blk (W4.alloc (.cells #[.func (.func 74) #[.pointer (some ⟨D, 0, none⟩)] #[], .func (.func 81) #[.pointer (some ⟨D, 0, none⟩)] #[], .func (.func 84) #[.pointer (some ⟨D, 0, none⟩)] #[], .func (.func 76) #[.pointer (some ⟨D, 0, none⟩)] #[]] 114)) W4.heap.size 114 #[.func (.func 74) #[.pointer (some ⟨D, 0, none⟩)] #[], .func (.func 81) #[.pointer (some ⟨D, 0, none⟩)] #[], .func (.func 84) #[.pointer (some ⟨D, 0, none⟩)] #[], .func (.func 76) #[.pointer (some ⟨D, 0, none⟩)] #[]]) := Lib.hid (Blk.new W4 _ _)
  obtain ⟨W5, hr5, O', hg⟩ := ins_f (World.ownsMap.kept O.out ((Up.refl W4).alloc (.cells #[.func (.func 74) #[.pointer (some ⟨D, 0, none⟩)] #[], .func (.func 81) #[.pointer (some ⟨D, 0, none⟩)] #[], .func (.func 84) #[.pointer (some ⟨D, 0, none⟩)] #[], .func (.func 76) #[.pointer (some ⟨D, 0, none⟩)] #[]] 114)).gb (by simp)) (by decide : 4 < 1000) 5 (by unfold I64; decide) (.slice (some ⟨W4.heap.size, 0, none⟩) 4 4)
  have bx := Lib.hid (blk_map (bx.out.alloc _) (World.ownsMap.kept O.out ((Up.refl W4).alloc (.cells #[.func (.func 74) #[.pointer (some ⟨D, 0, none⟩)] #[], .func (.func 81) #[.pointer (some ⟨D, 0, none⟩)] #[], .func (.func 84) #[.pointer (some ⟨D, 0, none⟩)] #[], .func (.func 76) #[.pointer (some ⟨D, 0, none⟩)] #[]] 114)).gb (by simp)) hg)
  have sw := Lib.hid (blk_map (sw.out.alloc _) (World.ownsMap.kept O.out ((Up.refl W4).alloc (.cells #[.func (.func 74) #[.pointer (some ⟨D, 0, none⟩)] #[], .func (.func 81) #[.pointer (some ⟨D, 0, none⟩)] #[], .func (.func 84) #[.pointer (some ⟨D, 0, none⟩)] #[], .func (.func 76) #[.pointer (some ⟨D, 0, none⟩)] #[]] 114)).gb (by simp)) hg)
  have s1 := Lib.hid (blk_map (s1.out.alloc _) (World.ownsMap.kept O.out ((Up.refl W4).alloc (.cells #[.func (.func 74) #[.pointer (some ⟨D, 0, none⟩)] #[], .func (.func 81) #[.pointer (some ⟨D, 0, none⟩)] #[], .func (.func 84) #[.pointer (some ⟨D, 0, none⟩)] #[], .func (.func 76) #[.pointer (some ⟨D, 0, none⟩)] #[]] 114)).gb (by simp)) hg)
  have s2 := Lib.hid (blk_map (s2.out.alloc _) (World.ownsMap.kept O.out ((Up.refl W4).alloc (.cells #[.func (.func 74) #[.pointer (some ⟨D, 0, none⟩)] #[], .func (.func 81) #[.pointer (some ⟨D, 0, none⟩)] #[], .func (.func 84) #[.pointer (some ⟨D, 0, none⟩)] #[], .func (.func 76) #[.pointer (some ⟨D, 0, none⟩)] #[]] 114)).gb (by simp)) hg)
  have s3 := Lib.hid (blk_map (s3.out.alloc _) (World.ownsMap.kept O.out ((Up.refl W4).alloc (.cells #[.func (.func 74) #[.pointer (some ⟨D, 0, none⟩)] #[], .func (.func 81) #[.pointer (some ⟨D, 0, none⟩)] #[], .func (.func 84) #[.pointer (some ⟨D, 0, none⟩)] #[], .func (.func 76) #[.pointer (some ⟨D, 0, none⟩)] #[]] 114)).gb (by simp)) hg)
  have s5 := Lib.hid (blk_map s5.out (World.ownsMap.kept O.out ((Up.refl W4).alloc (.cells #[.func (.func 74) #[.pointer (some ⟨D, 0, none⟩)] #[], .func (.func 81) #[.pointer (some ⟨D, 0, none⟩)] #[], .func (.func 84) #[.pointer (some ⟨D, 0, none⟩)] #[], .func (.func 76) #[.pointer (some ⟨D, 0, none⟩)] #[]] 114)).gb (by simp)) hg)
  have U := Lib.hid ((U.out.alloc _).grown hg (fun k e => by cases e; exact HM.out))
  replace O := Lib.hid O'
  clear O' hg
  obtain ⟨W6, hr6, O', hg⟩ := ins_f O.out (by decide : 5 < 1000) 6 (by unfold I64; decide) (.slice (some ⟨w.heap.size + 1, 0, none⟩) 3 3)
  have bx := Lib.hid (blk_map bx.out O.out hg)
  have sw := Lib.hid (blk_map sw.out O.out hg)
  have s1 := Lib.hid (blk_map s1.out O.out hg)
  have s2 := Lib.hid (blk_map s2.out O.out hg)
  have s3 := Lib.hid (blk_map s3.out O.out hg)
  have s5 := Lib.hid (blk_map s5.out O.out hg)
  have U := Lib.hid (U.out.grown hg (fun k e => by cases e; exact HM.out))
  replace O := Lib.hid O'
  clear O' hg
  obtain ⟨W7, hr7, O', hg⟩ := ins_f O.out (by decide : 6 < 1000) 7 (by unfold I64; decide) (.slice (some ⟨w.heap.size + 1, 0, none⟩) 3 3)
  have bx := Lib.hid (blk_map bx.out O.out hg)
  have sw := Lib.hid (blk_map sw.out O.out hg)
  have s1 := Lib.hid (blk_map s1.out O.out hg)
  have s2 := Lib.hid (blk_map s2.out O.out hg)
  have s3 := Lib.hid (blk_map s3.out O.out hg)
  have s5 := Lib.hid (blk_map s5.out O.out hg)
  have U := Lib.hid (U.out.grown hg (fun k e => by cases e; exact HM.out))
  replace O := Lib.hid O'
  clear O' hg
  go_wp2_with (with_reducible refine halt_at (o := ⟨some 43, _, _, _, _, _⟩) ?_)
  refine halt_w (fun Wz hWz => ?_)
  rw [hWz]
  clear hWz Wz
  clear hr5 hr6 hr7
  have bxc := bx.out.cell
  have bxl := bx.out.lt
  have s8 : Hid (Blk (W7.alloc (.cells #[.func (.func 85) #[.pointer (some ⟨D, 0, none⟩)] #[], .func (.func 84) #[.pointer (some ⟨D, 0, none⟩)] #[], .func (.func 86) #[] #[.pointer (some ⟨w.heap.size, 0, none⟩)]] 114)) W7.heap.size 114 #[.func (.func 85) #[.pointer (some ⟨D, 0, none⟩)] #[], .func (.func 84) #[.pointer (some ⟨D, 0, none⟩)] #[], .func (.func 86) #[] #[.pointer (some ⟨w.heap.size, 0, none⟩)]]) := Lib.hid (Blk.new W7 _ _)
  obtain ⟨W8, hr8, O', hg⟩ := ins_f (World.ownsMap.kept O.out ((Up.refl W7).alloc (.cells #[.func (.func 85) #[.pointer (some ⟨D, 0, none⟩)] #[], .func (.func 84) #[.pointer (some ⟨D, 0, none⟩)] #[], .func (.func 86) #[] #[.pointer (some ⟨w.heap.size, 0, none⟩)]] 114)).gb (by simp)) (by decide : 7 < 1000) 8 (by unfold I64; decide) (.slice (some ⟨W7.heap.size, 0, none⟩) 3 3)
  have bx := Lib.hid (blk_map (bx.out.alloc _) (World.ownsMap.kept O.out ((Up.refl W7).alloc (.cells #[.func (.func 85) #[.pointer (some ⟨D, 0, none⟩)] #[], .func (.func 84) #[.pointer (some ⟨D, 0, none⟩)] #[], .func (.func 86) #[] #[.pointer (some ⟨w.heap.size, 0, none⟩)]] 114)).gb (by simp)) hg)
  have sw := Lib.hid (blk_map (sw.out.alloc _) (World.ownsMap.kept O.out ((Up.refl W7).alloc (.cells #[.func (.func 85) #[.pointer (some ⟨D, 0, none⟩)] #[], .func (.func 84) #[.pointer (some ⟨D, 0, none⟩)] #[], .func (.func 86) #[] #[.pointer (some ⟨w.heap.size, 0, none⟩)]] 114)).gb (by simp)) hg)
  have s1 := Lib.hid (blk_map (s1.out.alloc _) (World.ownsMap.kept O.out ((Up.refl W7).alloc (.cells #[.func (.func 85) #[.pointer (some ⟨D, 0, none⟩)] #[], .func (.func 84) #[.pointer (some ⟨D, 0, none⟩)] #[], .func (.func 86) #[] #[.pointer (some ⟨w.heap.size, 0, none⟩)]] 114)).gb (by simp)) hg)
  have s2 := Lib.hid (blk_map (s2.out.alloc _) (World.ownsMap.kept O.out ((Up.refl W7).alloc (.cells #[.func (.func 85) #[.pointer (some ⟨D, 0, none⟩)] #[], .func (.func 84) #[.pointer (some ⟨D, 0, none⟩)] #[], .func (.func 86) #[] #[.pointer (some ⟨w.heap.size, 0, none⟩)]] 114)).gb (by simp)) hg)
  have s3 := Lib.hid (blk_map (s3.out.alloc _) (World.ownsMap.kept O.out ((Up.refl W7).alloc (.cells #[.func (.func 85) #[.pointer (some ⟨D, 0, none⟩)] #[], .func (.func 84) #[.pointer (some ⟨D, 0, none⟩)] #[], .func (.func 86) #[] #[.pointer (some ⟨w.heap.size, 0, none⟩)]] 114)).gb (by simp)) hg)
  have s5 := Lib.hid (blk_map (s5.out.alloc _) (World.ownsMap.kept O.out ((Up.refl W7).alloc (.cells #[.func (.func 85) #[.pointer (some ⟨D, 0, none⟩)] #[], .func (.func 84) #[.pointer (some ⟨D, 0, none⟩)] #[], .func (.func 86) #[] #[.pointer (some ⟨w.heap.size, 0, none⟩)]] 114)).gb (by simp)) hg)
  have s8 := Lib.hid (blk_map s8.out (World.ownsMap.kept O.out ((Up.refl W7).alloc (.cells #[.func (.func 85) #[.pointer (some ⟨D, 0, none⟩)] #[], .func (.func 84) #[.pointer (some ⟨D, 0, none⟩)] #[], .func (.func 86) #[] #[.pointer (some ⟨w.heap.size, 0, none⟩)]] 114)).gb (by simp)) hg)
  have U := Lib.hid ((U.out.alloc _).grown hg (fun k e => by cases e; exact HM.out))
  replace O := Lib.hid O'
  clear O' hg
  go_wp2_with (with_reducible refine halt_at (o := ⟨some 49, _, _, _, _, _⟩) ?_)
  refine halt_w (fun Wz hWz => ?_)
  rw [hWz]
  clear hWz Wz
  clear hr8
  have bxc := bx.out.cell
  have bxl := bx.out.lt
  have s9 : Hid (Blk (W8.alloc (.cells #[.func (.func 85) #[.pointer (some ⟨D, 0, none⟩)] #[], .func (.func 87) #[] #[.pointer (some ⟨w.heap.size, 0, none⟩)]] 114)) W8.heap.size 114 #[.func (.func 85) #[.pointer (some ⟨D, 0, none⟩)] #[], .func (.func 87) #[] #[.pointer (some ⟨w.heap.size, 0, none⟩)]]) := Lib.hid (Blk.new W8 _ _)
  obtain ⟨W9, hr9, O', hg⟩ := ins_f (World.ownsMap.kept O.out ((Up.refl W8).alloc (.cells #[.func (.func 85) #[.pointer (some ⟨D, 0, none⟩)] #[], .func (.func 87) #[] #[.pointer (some ⟨w.heap.size, 0, none⟩)]] 114)).gb (by simp)) (by decide : 8 < 1000) 9 (by unfold I64; decide) (.slice (some ⟨W8.heap.size, 0, none⟩) 2 2)
  have bx := Lib.hid (blk_map (bx.out.alloc _) (World.ownsMap.kept O.out ((Up.refl W8).alloc (.cells #[.func (.func 85) #[.pointer (some ⟨D, 0, none⟩)] #[], .func (.func 87) #[] #[.pointer (some ⟨w.heap.size, 0, none⟩)]] 114)).gb (by simp)) hg)
  have sw := Lib.hid (blk_map (sw.out.alloc _) (World.ownsMap.kept O.out ((Up.refl W8).alloc (.cells #[.func (.func 85) #[.pointer (some ⟨D, 0, none⟩)] #[], .func (.func 87) #[] #[.pointer (some ⟨w.heap.size, 0, none⟩)]] 114)).gb (by simp)) hg)
  have s1 := Lib.hid (blk_map (s1.out.alloc _) (World.ownsMap.kept O.out ((Up.refl W8).alloc (.cells #[.func (.func 85) #[.pointer (some ⟨D, 0, none⟩)] #[], .func (.func 87) #[] #[.pointer (some ⟨w.heap.size, 0, none⟩)]] 114)).gb (by simp)) hg)
  have s2 := Lib.hid (blk_map (s2.out.alloc _) (World.ownsMap.kept O.out ((Up.refl W8).alloc (.cells #[.func (.func 85) #[.pointer (some ⟨D, 0, none⟩)] #[], .func (.func 87) #[] #[.pointer (some ⟨w.heap.size, 0, none⟩)]] 114)).gb (by simp)) hg)
  have s3 := Lib.hid (blk_map (s3.out.alloc _) (World.ownsMap.kept O.out ((Up.refl W8).alloc (.cells #[.func (.func 85) #[.pointer (some ⟨D, 0, none⟩)] #[], .func (.func 87) #[] #[.pointer (some ⟨w.heap.size, 0, none⟩)]] 114)).gb (by simp)) hg)
  have s5 := Lib.hid (blk_map (s5.out.alloc _) (World.ownsMap.kept O.out ((Up.refl W8).alloc (.cells #[.func (.func 85) #[.pointer (some ⟨D, 0, none⟩)] #[], .func (.func 87) #[] #[.pointer (some ⟨w.heap.size, 0, none⟩)]] 114)).gb (by simp)) hg)
  have s8 := Lib.hid (blk_map (s8.out.alloc _) (World.ownsMap.kept O.out ((Up.refl W8).alloc (.cells #[.func (.func 85) #[.pointer (some ⟨D, 0, none⟩)] #[], .func (.func 87) #[] #[.pointer (some ⟨w.heap.size, 0, none⟩)]] 114)).gb (by simp)) hg)
  have s9 := Lib.hid (blk_map s9.out (World.ownsMap.kept O.out ((Up.refl W8).alloc (.cells #[.func (.func 85) #[.pointer (some ⟨D, 0, none⟩)] #[], .func (.func 87) #[] #[.pointer (some ⟨w.heap.size, 0, none⟩)]] 114)).gb (by simp)) hg)
  have U := Lib.hid ((U.out.alloc _).grown hg (fun k e => by cases e; exact HM.out))
  replace O := Lib.hid O'
  clear O' hg
  go_wp2_with (with_reducible refine halt_at (o := ⟨some 53, _, _, _, _, _⟩) ?_)
  refine halt_w (fun Wz hWz => ?_)
  rw [hWz]
  clear hWz Wz
  clear hr9
  have bxc := bx.out.cell
  have bxl := bx.out.lt
  have s10 : Hid (Blk (W9.alloc (.cells #[.func (.func 88) #[.pointer (some ⟨D, 0, none⟩)] #[]] 114)) W9.heap.size 114 #[.func (.func 88) #[.pointer (some ⟨D, 0, none⟩)] #[]]) := Lib.hid (Blk.new W9 _ _)
  obtain ⟨W10, hr10, O', hg⟩ := ins_f (World.ownsMap.kept O.out ((Up.refl W9).alloc (.cells #[.func (.func 88) #[.pointer (some ⟨D, 0, none⟩)] #[]] 114)).gb (by simp)) (by decide : 9 < 1000) 10 (by unfold I64; decide) (.slice (some ⟨W9.heap.size, 0, none⟩) 1 1)
  have bx := Lib.hid (blk_map (bx.out.alloc _) (World.ownsMap.kept O.out ((Up.refl W9).alloc (.cells #[.func (.func 88) #[.pointer (some ⟨D, 0, none⟩)] #[]] 114)).gb (by simp)) hg)
  have sw := Lib.hid (blk_map (sw.out.alloc _) (World.ownsMap.kept O.out ((Up.refl W9).alloc (.cells #[.func (.func 88) #[.pointer (some ⟨D, 0, none⟩)] #[]] 114)).gb (by simp)) hg)
  have s1 := Lib.hid (blk_map (s1.out.alloc _) (World.ownsMap.kept O.out ((Up.refl W9).alloc (.cells #[.func (.func 88) #[.pointer (some ⟨D, 0, none⟩)] #[]] 114)).gb (by simp)) hg)
  have s2 := Lib.hid (blk_map (s2.out.alloc _) (World.ownsMap.kept O.out ((Up.refl W9).alloc (.cells #[.func (.func 88) #[.pointer (some ⟨D, 0, none⟩)] #[]] 114)).gb (by simp)) hg)
  have s3 := Lib.hid (blk_map (s3.out.alloc _) (World.ownsMap.kept O.out ((Up.refl W9).alloc (.cells #[.func (.func 88) #[.pointer (some ⟨D, 0, none⟩)] #[]] 114)).gb (by simp)) hg)
  have s5 := Lib.hid (blk_map (s5.out.alloc _) (World.ownsMap.kept O.out ((Up.refl W9).alloc (.cells #[.func (.func 88) #[.pointer (some ⟨D, 0, none⟩)] #[]] 114)).gb (by simp)) hg)
  have s8 := Lib.hid (blk_map (s8.out.alloc _) (World.ownsMap.kept O.out ((Up.refl W9).alloc (.cells #[.func (.func 88) #[.pointer (some ⟨D, 0, none⟩)] #[]] 114)).gb (by simp)) hg)
  have s9 := Lib.hid (blk_map (s9.out.alloc _) (World.ownsMap.kept O.out ((Up.refl W9).alloc (.cells #[.func (.func 88) #[.pointer (some ⟨D, 0, none⟩)] #[]] 114)).gb (by simp)) hg)
  have s10 := Lib.hid (blk_map s10.out (World.ownsMap.kept O.out ((Up.refl W9).alloc (.cells #[.func (.func 88) #[.pointer (some ⟨D, 0, none⟩)] #[]] 114)).gb (by simp)) hg)
  have U := Lib.hid ((U.out.alloc _).grown hg (fun k e => by cases e; exact HM.out))
  replace O := Lib.hid O'
  clear O' hg
  go_wp2_with (with_reducible refine halt_at (o := ⟨some 56, _, _, _, _, _⟩) ?_)
  refine halt_w (fun Wz hWz => ?_)
  rw [hWz]
  clear hWz Wz
  clear hr10
  have bxc := bx.out.cell
  have bxl := bx.out.lt
  have s11 : Hid (Blk (W10.alloc (.cells #[.func (.func 89) #[] #[]] 114)) W10.heap.size 114 #[.func (.func 89) #[] #[]]) := Lib.hid (Blk.new W10 _ _)
  obtain ⟨W11, hr11, O', hg⟩ := ins_f (World.ownsMap.kept O.out ((Up.refl W10).alloc (.cells #[.func (.func 89) #[] #[]] 114)).gb (by simp)) (by decide : 10 < 1000) 11 (by unfold I64; decide) (.slice (some ⟨W10.heap.size, 0, none⟩) 1 1)
  have bx := Lib.hid (blk_map (bx.out.alloc _) (World.ownsMap.kept O.out ((Up.refl W10).alloc (.cells #[.func (.func 89) #[] #[]] 114)).gb (by simp)) hg)
  have sw := Lib.hid (blk_map (sw.out.alloc _) (World.ownsMap.kept O.out ((Up.refl W10).alloc (.cells #[.func (.func 89) #[] #[]] 114)).gb (by simp)) hg)
  have s1 := Lib.hid (blk_map (s1.out.alloc _) (World.ownsMap.kept O.out ((Up.refl W10).alloc (.cells #[.func (.func 89) #[] #[]] 114)).gb (by simp)) hg)
  have s2 := Lib.hid (blk_map (s2.out.alloc _) (World.ownsMap.kept O.out ((Up.refl W10).alloc (.cells #[.func (.func 89) #[] #[]] 114)).gb (by simp)) hg)
  have s3 := Lib.hid (blk_map (s3.out.alloc _) (World.ownsMap.kept O.out ((Up.refl W10).alloc (.cells #[.func (.func 89) #[] #[]] 114)).gb (by simp)) hg)
  have s5 := Lib.hid (blk_map (s5.out.alloc _) (World.ownsMap.kept O.out ((Up.refl W10).alloc (.cells #[.func (.func 89) #[] #[]] 114)).gb (by simp)) hg)
  have s8 := Lib.hid (blk_map (s8.out.alloc _) (World.ownsMap.kept O.out ((Up.refl W10).alloc (.cells #[.func (.func 89) #[] #[]] 114)).gb (by simp)) hg)
  have s9 := Lib.hid (blk_map (s9.out.alloc _) (World.ownsMap.kept O.out ((Up.refl W10).alloc (.cells #[.func (.func 89) #[] #[]] 114)).gb (by simp)) hg)
  have s10 := Lib.hid (blk_map (s10.out.alloc _) (World.ownsMap.kept O.out ((Up.refl W10).alloc (.cells #[.func (.func 89) #[] #[]] 114)).gb (by simp)) hg)
  have s11 := Lib.hid (blk_map s11.out (World.ownsMap.kept O.out ((Up.refl W10).alloc (.cells #[.func (.func 89) #[] #[]] 114)).gb (by simp)) hg)
  have U := Lib.hid ((U.out.alloc _).grown hg (fun k e => by cases e; exact HM.out))
  replace O := Lib.hid O'
  clear O' hg
  go_wp2
  go_ret
  refine ⟨_, _, _, w.heap.size, rfl, O.out, U.out, bx.out, fun kd => ?_⟩
  by_cases h1 : kd = 1
  · subst h1
    exact ⟨_, (got_other (by decide) (got_other (by decide) (got_other (by decide) (got_other (by decide) (got_other (by decide) (got_other (by decide) (got_other (by decide) (got_other (by decide) (got_other (by decide) (got_other (by decide) (got_same (by repeat (first | exact isMap_empty | refine IsMap.put ?_ _ _)) 1 _))))))))))), _, rfl, s1.out⟩
  by_cases h2 : kd = 2
  · subst h2
    exact ⟨_, (got_other (by decide) (got_other (by decide) (got_other (by decide) (got_other (by decide) (got_other (by decide) (got_other (by decide) (got_other (by decide) (got_other (by decide) (got_other (by decide) (got_same (by repeat (first | exact isMap_empty | refine IsMap.put ?_ _ _)) 2 _)))))))))), _, rfl, s2.out⟩
  by_cases h3 : kd = 3
  · subst h3
    exact ⟨_, (got_other (by decide) (got_other (by decide) (got_other (by decide) (got_other (by decide) (got_other (by decide) (got_other (by decide) (got_other (by decide) (got_other (by decide) (got_same (by repeat (first | exact isMap_empty | refine IsMap.put ?_ _ _)) 3 _))))))))), _, rfl, s3.out⟩
  by_cases h4 : kd = 4
  · subst h4
    exact ⟨_, (got_other (by decide) (got_other (by decide) (got_other (by decide) (got_other (by decide) (got_other (by decide) (got_other (by decide) (got_other (by decide) (got_same (by repeat (first | exact isMap_empty | refine IsMap.put ?_ _ _)) 4 _)))))))), _, rfl, sw.out⟩
  by_cases h5 : kd = 5
  · subst h5
    exact ⟨_, (got_other (by decide) (got_other (by decide) (got_other (by decide) (got_other (by decide) (got_other (by decide) (got_other (by decide) (got_same (by repeat (first | exact isMap_empty | refine IsMap.put ?_ _ _)) 5 _))))))), _, rfl, s5.out⟩
  by_cases h6 : kd = 6
  · subst h6
    exact ⟨_, (got_other (by decide) (got_other (by decide) (got_other (by decide) (got_other (by decide) (got_other (by decide) (got_same (by repeat (first | exact isMap_empty | refine IsMap.put ?_ _ _)) 6 _)))))), _, rfl, sw.out⟩
  by_cases h7 : kd = 7
  · subst h7
    exact ⟨_, (got_other (by decide) (got_other (by decide) (got_other (by decide) (got_other (by decide) (got_same (by repeat (first | exact isMap_empty | refine IsMap.put ?_ _ _)) 7 _))))), _, rfl, sw.out⟩
  by_cases h8 : kd = 8
  · subst h8
    exact ⟨_, (got_other (by decide) (got_other (by decide) (got_other (by decide) (got_same (by repeat (first | exact isMap_empty | refine IsMap.put ?_ _ _)) 8 _)))), _, rfl, s8.out⟩
  by_cases h9 : kd = 9
  · subst h9
    exact ⟨_, (got_other (by decide) (got_other (by decide) (got_same (by repeat (first | exact isMap_empty | refine IsMap.put ?_ _ _)) 9 _))), _, rfl, s9.out⟩
  by_cases h10 : kd = 10
  · subst h10
    exact ⟨_, (got_other (by decide) (got_same (by repeat (first | exact isMap_empty | refine IsMap.put ?_ _ _)) 10 _)), _, rfl, s10.out⟩
  by_cases h11 : kd = 11
  · subst h11
    exact ⟨_, (got_same (by repeat (first | exact isMap_empty | refine IsMap.put ?_ _ _)) 11 _), _, rfl, s11.out⟩
  refine ⟨none, (got_other h11 (got_other h10 (got_other h9 (got_other h8 (got_other h7 (got_other h6 (got_other h5 (got_other h4 (got_other h3 (got_other h2 (got_other h1 (got_none kd)))))))))))), ?_⟩
  unfold Kat krow
  rw [if_neg h1, if_neg h2, if_neg h3, if_neg (by omega), if_neg h5, if_neg h8, if_neg h9, if_neg h10, if_neg h11]
end Go.Proofs.YtddoljfkbkbfjaaGreat.T
