/- A deed's map of kinds (graph's deed: kinds): contract. -/
import Derived.Test.YtlocllcijncllaaGm
namespace Go.Proofs.Ytlocllcijncllaa
open Go.Joins Go.ChangeShapes Go.WideShapes Go.ChangeAt Go.RowKit Go.Deep Go.Shelf Go.Maps
set_option linter.unusedVariables false
set_option linter.unusedSimpArgs false

/-- A function is read as itself. -/
def RF (v : Value) : Option (DataW Value × List MemPlace) := some (.held v, [])
abbrev OwnF (w : World) (M n : Nat) (D : DataW Value) : Prop := w.ownsMap Try.prog 3 RF M n D
theorem lawI : Keyed Try.prog 3 := int_keyed Try.underlying3
theorem key_i {k : Int} (h : I64 k) : keyOf Try.prog 3 (.int .i64 k) = some (.int .i64 k) := keyOf_int_mk Try.underlying3 (by
  have e : IntKind.i64.min = -9223372036854775808 := by decide
  have e2 : IntKind.i64.max = 9223372036854775807 := by decide
  simp [Lit.wf, e, e2]
  exact h)
theorem ins_f {w : World} {M n : Nat} {D : DataW Value} (hown : OwnF w M n D) (hn : n < 1000) (k : Int) (hk : I64 k) (val : Value) : ∃ w', (Instr.mapUpdate 73 (.map (some M)) (.int .i64 k) val).run Try.prog w = .ok () w' ∧ OwnF w' M (n + 1) (D.put (.int .i64 k) (.held val)) ∧ w.grownBy w' (some M) :=
  hown.update lawI Try.underlying73 (by unfold maxLen; omega) (key_i hk) (val := val) (d := .held val) (ps := []) rfl
/-- A block of cells stays where a map is written. -/
theorem blk_map {w w' : World} {M n g : Nat} {D : DataW Value} {t : TypeId} {cs : Array Value} (h : Blk w g t cs) (ho : OwnF w M n D) (hg : w.grownBy w' (some M)) : Blk w' g t cs :=
  h.grown hg (fun e => by
    cases e
    obtain ⟨es, clock, hb, _⟩ := ho
    unfold Blk at h
    rw [hb] at h
    cases h)
/-- Steps that stand in a row, as one function. -/
def Stp (w : World) (D : Nat) (v : Value) (fs : List FuncId) : Prop := ∃ B, v = .func (.func 76) #[] #[.pointer (some ⟨B, 0, none⟩)] ∧ ((fs = [] ∧ Blk w B 105 #[.slice none 0 0]) ∨ ∃ G, Blk w B 105 #[.slice (some ⟨G, 0, none⟩) fs.length fs.length] ∧ Blk w G 71 (fs.map (fnm D)).toArray)
theorem Stp.k {w w' : World} {D : Nat} {v : Value} {fs : List FuncId} (h : Stp w D v fs) (k : ∀ g t cs, Blk w g t cs → Blk w' g t cs) : Stp w' D v fs := by
  obtain ⟨B, e, h⟩ := h
  refine ⟨B, e, ?_⟩
  rcases h with ⟨e2, h⟩ | ⟨G, h1, h2⟩
  · exact .inl ⟨e2, k _ _ _ h⟩
  · exact .inr ⟨G, k _ _ _ h1, k _ _ _ h2⟩
theorem Stp.up {w w' : World} {D : Nat} {v : Value} {fs : List FuncId} (h : Stp w D v fs) (u : Up w w') : Stp w' D v fs := h.k fun _ _ _ hb => hb.up u
/-- The call that makes a row of steps one function. -/
theorem stp_of {w w' : World} {D : Nat} {fs : List FuncId} {n B : Nat} (hn : fs.length = n) (hB : Blk w' B 105 #[.slice (some ⟨w.heap.size, 0, none⟩) n n]) (hU : Up (w.alloc (.cells (fs.map (fnm D)).toArray 71)) w') : Stp w' D (.func (.func 76) #[] #[.pointer (some ⟨B, 0, none⟩)]) fs := by
  subst hn
  exact ⟨B, rfl, .inr ⟨w.heap.size, hB, (Blk.new w _ _).up hU⟩⟩
/-- What is done for a kind. -/
def kfs (kd : Int) : Option (List FuncId) :=
  if kd = 1 then some [60, 61, 62] else if kd = 2 then some [57, 58, 63] else if kd = 3 then some [57, 64, 61, 65] else if kd = 4 then some [57, 58, 59] else if kd = 5 then some [57, 64, 66, 59] else if kd = 6 then some [57, 58, 59] else if kd = 7 then some [57, 58, 59] else if kd = 8 then some [67, 66, 68] else if kd = 9 then some [67, 61, 69] else if kd = 11 then some [] else none
/-- What stands in the map at a kind. -/
def Kat (w : World) (D : Nat) (kd : Int) (v : Option Value) : Prop := if kd = 10 then v = some (fnm D 70) else match kfs kd with
  | some fs => ∃ u, v = some u ∧ Stp w D u fs
  | none => v = none
/-- What a key has. -/
def got (D : DataW Value) (kd : Int) (v : Option Value) : Prop := Maps.has D (.int .i64 kd) = v.isSome ∧ ∀ u, v = some u → ∀ z, D.atKey (.int .i64 kd) z = .held u
def KdPost (D : Nat) (w : World) (e : Ending) (w' : World) : Prop := ∃ M n Dm, e = .returned (.map (some M)) ∧ OwnF w' M n Dm ∧ Up w w' ∧ ∀ kd, ∃ v, got Dm kd v ∧ Kat w' D kd v
theorem isKey (k : Int) : WideAt.IsKeyLit (.int .i64 k) := by first | trivial | exact ⟨⟩ | simp [WideAt.IsKeyLit]
theorem got_same {D : DataW Value} (h : IsMap D) (k : Int) (v : Value) : got (D.put (.int .i64 k) (.held v)) k (some v) := ⟨by rw [has_put_same h (isKey k)]; rfl, fun u e z => by cases e; exact atKey_put_same h (isKey k) _ _⟩
theorem got_other {D : DataW Value} {k k' : Int} {v : Value} {u : Option Value} (hne : k' ≠ k) (h : got D k' u) : got (D.put (.int .i64 k) (.held v)) k' u := by
  have hl : (Lit.int .i64 k') ≠ (Lit.int .i64 k) := fun e => hne (by cases e; rfl)
  exact ⟨by rw [has_put_other hl]; exact h.1, fun x e z => by rw [atKey_put_other hl]; exact h.2 x e z⟩
theorem got_none (kd : Int) : got (.map []) kd none := ⟨rfl, fun u e => by cases e⟩
set_option maxRecDepth 100000 in
set_option maxHeartbeats 4000000 in
theorem kinds_any (D : Nat) (w : World) : Calls Try.prog 31 #[.pointer (some ⟨D, 0, none⟩)] w (KdPost D w) := by
  have hmm := @run_makeMap Try.prog
  go_enter Try.func31, Try.ntmps31
  go_wp2_with (fail)
  refine (inorder_any _ _ _ _ _ rfl).mono ?_
  rintro e w1 ⟨Bw, rfl, hBw, hU⟩
  have sw := Lib.hid (stp_of (D := D) (fs := [57, 58, 59]) (w := w) rfl hBw hU)
  have U1 := Lib.hid (((Up.refl w).alloc _).trans hU)
  clear hBw hU
  have O := Lib.hid (World.ownsMap_made w1 Try.prog 3 RF)
  have HM := Lib.hid (U1.out.size)
  have sw := Lib.hid (sw.out.up ((Up.refl w1).alloc (.map #[] 0)))
  have U1 := Lib.hid (U1.out.alloc (.map #[] 0))
  go_wp2_with (fail)
  refine (inorder_any _ _ _ _ _ rfl).mono ?_
  rintro e w3 ⟨B1, rfl, hB1, hU⟩
  have s1 := Lib.hid (stp_of (D := D) (fs := [60, 61, 62]) (w := (w1.alloc (.map #[] 0))) rfl (by rw [World.size_alloc]; exact hB1) hU)
  have hUU := ((Up.refl (w1.alloc (.map #[] 0))).alloc _).trans hU
  have sw := Lib.hid (sw.out.up hUU)
  have O := Lib.hid (World.ownsMap.kept O.out hUU.gb (by simp))
  have U1 := Lib.hid (U1.out.trans hUU)
  clear hB1 hU hUU
  generalize hMM : w1.heap.size = M at *
  clear hMM
  obtain ⟨w4, hr1, O', hg⟩ := ins_f O.out (by decide : 0 < 1000) 1 (by unfold I64; decide) (.func (.func 76) #[] #[.pointer (some ⟨B1, 0, none⟩)])
  have sw := Lib.hid (sw.out.k (fun _ _ _ hb => blk_map hb O.out hg))
  have s1 := Lib.hid (s1.out.k (fun _ _ _ hb => blk_map hb O.out hg))
  have U1 := Lib.hid (U1.out.grown hg (fun k e => by cases e; exact HM.out))
  replace O := Lib.hid O'
  clear O' hg
  go_wp2_with (fail)
  clear hr1
  refine (inorder_any _ _ _ _ _ rfl).mono ?_
  rintro e w5 ⟨B2, rfl, hB2, hU⟩
  have s2 := Lib.hid (stp_of (D := D) (fs := [57, 58, 63]) (w := w4) rfl hB2 hU)
  have hUU := ((Up.refl w4).alloc _).trans hU
  have sw := Lib.hid (sw.out.up hUU)
  have s1 := Lib.hid (s1.out.up hUU)
  have O := Lib.hid (World.ownsMap.kept O.out hUU.gb (by simp))
  have U1 := Lib.hid (U1.out.trans hUU)
  clear hB2 hU hUU
  obtain ⟨w6, hr2, O', hg⟩ := ins_f O.out (by decide : 1 < 1000) 2 (by unfold I64; decide) (.func (.func 76) #[] #[.pointer (some ⟨B2, 0, none⟩)])
  have sw := Lib.hid (sw.out.k (fun _ _ _ hb => blk_map hb O.out hg))
  have s1 := Lib.hid (s1.out.k (fun _ _ _ hb => blk_map hb O.out hg))
  have s2 := Lib.hid (s2.out.k (fun _ _ _ hb => blk_map hb O.out hg))
  have U1 := Lib.hid (U1.out.grown hg (fun k e => by cases e; exact HM.out))
  replace O := Lib.hid O'
  clear O' hg
  go_wp2_with (fail)
  clear hr2
  refine (inorder_any _ _ _ _ _ rfl).mono ?_
  rintro e w7 ⟨B3, rfl, hB3, hU⟩
  have s3 := Lib.hid (stp_of (D := D) (fs := [57, 64, 61, 65]) (w := w6) rfl hB3 hU)
  have hUU := ((Up.refl w6).alloc _).trans hU
  have sw := Lib.hid (sw.out.up hUU)
  have s1 := Lib.hid (s1.out.up hUU)
  have s2 := Lib.hid (s2.out.up hUU)
  have O := Lib.hid (World.ownsMap.kept O.out hUU.gb (by simp))
  have U1 := Lib.hid (U1.out.trans hUU)
  clear hB3 hU hUU
  obtain ⟨w8, hr3, O', hg⟩ := ins_f O.out (by decide : 2 < 1000) 3 (by unfold I64; decide) (.func (.func 76) #[] #[.pointer (some ⟨B3, 0, none⟩)])
  have sw := Lib.hid (sw.out.k (fun _ _ _ hb => blk_map hb O.out hg))
  have s1 := Lib.hid (s1.out.k (fun _ _ _ hb => blk_map hb O.out hg))
  have s2 := Lib.hid (s2.out.k (fun _ _ _ hb => blk_map hb O.out hg))
  have s3 := Lib.hid (s3.out.k (fun _ _ _ hb => blk_map hb O.out hg))
  have U1 := Lib.hid (U1.out.grown hg (fun k e => by cases e; exact HM.out))
  replace O := Lib.hid O'
  clear O' hg
  obtain ⟨w9, hr4, O', hg⟩ := ins_f O.out (by decide : 3 < 1000) 4 (by unfold I64; decide) (.func (.func 76) #[] #[.pointer (some ⟨Bw, 0, none⟩)])
  have sw := Lib.hid (sw.out.k (fun _ _ _ hb => blk_map hb O.out hg))
  have s1 := Lib.hid (s1.out.k (fun _ _ _ hb => blk_map hb O.out hg))
  have s2 := Lib.hid (s2.out.k (fun _ _ _ hb => blk_map hb O.out hg))
  have s3 := Lib.hid (s3.out.k (fun _ _ _ hb => blk_map hb O.out hg))
  have U1 := Lib.hid (U1.out.grown hg (fun k e => by cases e; exact HM.out))
  replace O := Lib.hid O'
  clear O' hg
  go_wp2_with (fail)
  clear hr3 hr4
  refine (inorder_any _ _ _ _ _ rfl).mono ?_
  rintro e w10 ⟨B5, rfl, hB5, hU⟩
  have s5 := Lib.hid (stp_of (D := D) (fs := [57, 64, 66, 59]) (w := w9) rfl hB5 hU)
  have hUU := ((Up.refl w9).alloc _).trans hU
  have sw := Lib.hid (sw.out.up hUU)
  have s1 := Lib.hid (s1.out.up hUU)
  have s2 := Lib.hid (s2.out.up hUU)
  have s3 := Lib.hid (s3.out.up hUU)
  have O := Lib.hid (World.ownsMap.kept O.out hUU.gb (by simp))
  have U1 := Lib.hid (U1.out.trans hUU)
  clear hB5 hU hUU
  obtain ⟨w11, hr5, O', hg⟩ := ins_f O.out (by decide : 4 < 1000) 5 (by unfold I64; decide) (.func (.func 76) #[] #[.pointer (some ⟨B5, 0, none⟩)])
  have sw := Lib.hid (sw.out.k (fun _ _ _ hb => blk_map hb O.out hg))
  have s1 := Lib.hid (s1.out.k (fun _ _ _ hb => blk_map hb O.out hg))
  have s2 := Lib.hid (s2.out.k (fun _ _ _ hb => blk_map hb O.out hg))
  have s3 := Lib.hid (s3.out.k (fun _ _ _ hb => blk_map hb O.out hg))
  have s5 := Lib.hid (s5.out.k (fun _ _ _ hb => blk_map hb O.out hg))
  have U1 := Lib.hid (U1.out.grown hg (fun k e => by cases e; exact HM.out))
  replace O := Lib.hid O'
  clear O' hg
  obtain ⟨w12, hr6, O', hg⟩ := ins_f O.out (by decide : 5 < 1000) 6 (by unfold I64; decide) (.func (.func 76) #[] #[.pointer (some ⟨Bw, 0, none⟩)])
  have sw := Lib.hid (sw.out.k (fun _ _ _ hb => blk_map hb O.out hg))
  have s1 := Lib.hid (s1.out.k (fun _ _ _ hb => blk_map hb O.out hg))
  have s2 := Lib.hid (s2.out.k (fun _ _ _ hb => blk_map hb O.out hg))
  have s3 := Lib.hid (s3.out.k (fun _ _ _ hb => blk_map hb O.out hg))
  have s5 := Lib.hid (s5.out.k (fun _ _ _ hb => blk_map hb O.out hg))
  have U1 := Lib.hid (U1.out.grown hg (fun k e => by cases e; exact HM.out))
  replace O := Lib.hid O'
  clear O' hg
  obtain ⟨w13, hr7, O', hg⟩ := ins_f O.out (by decide : 6 < 1000) 7 (by unfold I64; decide) (.func (.func 76) #[] #[.pointer (some ⟨Bw, 0, none⟩)])
  have sw := Lib.hid (sw.out.k (fun _ _ _ hb => blk_map hb O.out hg))
  have s1 := Lib.hid (s1.out.k (fun _ _ _ hb => blk_map hb O.out hg))
  have s2 := Lib.hid (s2.out.k (fun _ _ _ hb => blk_map hb O.out hg))
  have s3 := Lib.hid (s3.out.k (fun _ _ _ hb => blk_map hb O.out hg))
  have s5 := Lib.hid (s5.out.k (fun _ _ _ hb => blk_map hb O.out hg))
  have U1 := Lib.hid (U1.out.grown hg (fun k e => by cases e; exact HM.out))
  replace O := Lib.hid O'
  clear O' hg
  go_wp2_with (fail)
  clear hr5 hr6 hr7
  refine (inorder_any _ _ _ _ _ rfl).mono ?_
  rintro e w14 ⟨B8, rfl, hB8, hU⟩
  have s8 := Lib.hid (stp_of (D := D) (fs := [67, 66, 68]) (w := w13) rfl hB8 hU)
  have hUU := ((Up.refl w13).alloc _).trans hU
  have sw := Lib.hid (sw.out.up hUU)
  have s1 := Lib.hid (s1.out.up hUU)
  have s2 := Lib.hid (s2.out.up hUU)
  have s3 := Lib.hid (s3.out.up hUU)
  have s5 := Lib.hid (s5.out.up hUU)
  have O := Lib.hid (World.ownsMap.kept O.out hUU.gb (by simp))
  have U1 := Lib.hid (U1.out.trans hUU)
  clear hB8 hU hUU
  obtain ⟨w15, hr8, O', hg⟩ := ins_f O.out (by decide : 7 < 1000) 8 (by unfold I64; decide) (.func (.func 76) #[] #[.pointer (some ⟨B8, 0, none⟩)])
  have sw := Lib.hid (sw.out.k (fun _ _ _ hb => blk_map hb O.out hg))
  have s1 := Lib.hid (s1.out.k (fun _ _ _ hb => blk_map hb O.out hg))
  have s2 := Lib.hid (s2.out.k (fun _ _ _ hb => blk_map hb O.out hg))
  have s3 := Lib.hid (s3.out.k (fun _ _ _ hb => blk_map hb O.out hg))
  have s5 := Lib.hid (s5.out.k (fun _ _ _ hb => blk_map hb O.out hg))
  have s8 := Lib.hid (s8.out.k (fun _ _ _ hb => blk_map hb O.out hg))
  have U1 := Lib.hid (U1.out.grown hg (fun k e => by cases e; exact HM.out))
  replace O := Lib.hid O'
  clear O' hg
  go_wp2_with (fail)
  clear hr8
  refine (inorder_any _ _ _ _ _ rfl).mono ?_
  rintro e w16 ⟨B9, rfl, hB9, hU⟩
  have s9 := Lib.hid (stp_of (D := D) (fs := [67, 61, 69]) (w := w15) rfl hB9 hU)
  have hUU := ((Up.refl w15).alloc _).trans hU
  have sw := Lib.hid (sw.out.up hUU)
  have s1 := Lib.hid (s1.out.up hUU)
  have s2 := Lib.hid (s2.out.up hUU)
  have s3 := Lib.hid (s3.out.up hUU)
  have s5 := Lib.hid (s5.out.up hUU)
  have s8 := Lib.hid (s8.out.up hUU)
  have O := Lib.hid (World.ownsMap.kept O.out hUU.gb (by simp))
  have U1 := Lib.hid (U1.out.trans hUU)
  clear hB9 hU hUU
  obtain ⟨w17, hr9, O', hg⟩ := ins_f O.out (by decide : 8 < 1000) 9 (by unfold I64; decide) (.func (.func 76) #[] #[.pointer (some ⟨B9, 0, none⟩)])
  have sw := Lib.hid (sw.out.k (fun _ _ _ hb => blk_map hb O.out hg))
  have s1 := Lib.hid (s1.out.k (fun _ _ _ hb => blk_map hb O.out hg))
  have s2 := Lib.hid (s2.out.k (fun _ _ _ hb => blk_map hb O.out hg))
  have s3 := Lib.hid (s3.out.k (fun _ _ _ hb => blk_map hb O.out hg))
  have s5 := Lib.hid (s5.out.k (fun _ _ _ hb => blk_map hb O.out hg))
  have s8 := Lib.hid (s8.out.k (fun _ _ _ hb => blk_map hb O.out hg))
  have s9 := Lib.hid (s9.out.k (fun _ _ _ hb => blk_map hb O.out hg))
  have U1 := Lib.hid (U1.out.grown hg (fun k e => by cases e; exact HM.out))
  replace O := Lib.hid O'
  clear O' hg
  obtain ⟨w18, hr10, O', hg⟩ := ins_f O.out (by decide : 9 < 1000) 10 (by unfold I64; decide) (.func (.func 70) #[.pointer (some ⟨D, 0, none⟩)] #[])
  have sw := Lib.hid (sw.out.k (fun _ _ _ hb => blk_map hb O.out hg))
  have s1 := Lib.hid (s1.out.k (fun _ _ _ hb => blk_map hb O.out hg))
  have s2 := Lib.hid (s2.out.k (fun _ _ _ hb => blk_map hb O.out hg))
  have s3 := Lib.hid (s3.out.k (fun _ _ _ hb => blk_map hb O.out hg))
  have s5 := Lib.hid (s5.out.k (fun _ _ _ hb => blk_map hb O.out hg))
  have s8 := Lib.hid (s8.out.k (fun _ _ _ hb => blk_map hb O.out hg))
  have s9 := Lib.hid (s9.out.k (fun _ _ _ hb => blk_map hb O.out hg))
  have U1 := Lib.hid (U1.out.grown hg (fun k e => by cases e; exact HM.out))
  replace O := Lib.hid O'
  clear O' hg
  go_wp2_with (fail)
  clear hr9 hr10
  refine (inorder_any _ _ _ _ _ rfl).mono ?_
  rintro e w19 ⟨B11, rfl, hB11, hU⟩
  have s11 : Hid (Stp w19 D (.func (.func 76) #[] #[.pointer (some ⟨B11, 0, none⟩)]) []) := Lib.hid ⟨B11, rfl, .inl ⟨rfl, hB11⟩⟩
  have hUU := hU
  have sw := Lib.hid (sw.out.up hUU)
  have s1 := Lib.hid (s1.out.up hUU)
  have s2 := Lib.hid (s2.out.up hUU)
  have s3 := Lib.hid (s3.out.up hUU)
  have s5 := Lib.hid (s5.out.up hUU)
  have s8 := Lib.hid (s8.out.up hUU)
  have s9 := Lib.hid (s9.out.up hUU)
  have O := Lib.hid (World.ownsMap.kept O.out hUU.gb (by simp))
  have U1 := Lib.hid (U1.out.trans hUU)
  clear hB11 hU hUU
  obtain ⟨w20, hr11, O', hg⟩ := ins_f O.out (by decide : 10 < 1000) 11 (by unfold I64; decide) (.func (.func 76) #[] #[.pointer (some ⟨B11, 0, none⟩)])
  have sw := Lib.hid (sw.out.k (fun _ _ _ hb => blk_map hb O.out hg))
  have s1 := Lib.hid (s1.out.k (fun _ _ _ hb => blk_map hb O.out hg))
  have s2 := Lib.hid (s2.out.k (fun _ _ _ hb => blk_map hb O.out hg))
  have s3 := Lib.hid (s3.out.k (fun _ _ _ hb => blk_map hb O.out hg))
  have s5 := Lib.hid (s5.out.k (fun _ _ _ hb => blk_map hb O.out hg))
  have s8 := Lib.hid (s8.out.k (fun _ _ _ hb => blk_map hb O.out hg))
  have s9 := Lib.hid (s9.out.k (fun _ _ _ hb => blk_map hb O.out hg))
  have s11 := Lib.hid (s11.out.k (fun _ _ _ hb => blk_map hb O.out hg))
  have U1 := Lib.hid (U1.out.grown hg (fun k e => by cases e; exact HM.out))
  replace O := Lib.hid O'
  clear O' hg
  go_wp2
  go_ret
  refine ⟨M, _, _, rfl, O.out, U1.out, fun kd => ?_⟩
  by_cases h1 : kd = 1
  · subst h1
    exact ⟨_, (got_other (by decide) (got_other (by decide) (got_other (by decide) (got_other (by decide) (got_other (by decide) (got_other (by decide) (got_other (by decide) (got_other (by decide) (got_other (by decide) (got_other (by decide) (got_same (by repeat (first | exact isMap_empty | refine IsMap.put ?_ _ _)) 1 _))))))))))), by unfold Kat; rw [if_neg (by decide)]; exact ⟨_, rfl, s1.out⟩⟩
  by_cases h2 : kd = 2
  · subst h2
    exact ⟨_, (got_other (by decide) (got_other (by decide) (got_other (by decide) (got_other (by decide) (got_other (by decide) (got_other (by decide) (got_other (by decide) (got_other (by decide) (got_other (by decide) (got_same (by repeat (first | exact isMap_empty | refine IsMap.put ?_ _ _)) 2 _)))))))))), by unfold Kat; rw [if_neg (by decide)]; exact ⟨_, rfl, s2.out⟩⟩
  by_cases h3 : kd = 3
  · subst h3
    exact ⟨_, (got_other (by decide) (got_other (by decide) (got_other (by decide) (got_other (by decide) (got_other (by decide) (got_other (by decide) (got_other (by decide) (got_other (by decide) (got_same (by repeat (first | exact isMap_empty | refine IsMap.put ?_ _ _)) 3 _))))))))), by unfold Kat; rw [if_neg (by decide)]; exact ⟨_, rfl, s3.out⟩⟩
  by_cases h4 : kd = 4
  · subst h4
    exact ⟨_, (got_other (by decide) (got_other (by decide) (got_other (by decide) (got_other (by decide) (got_other (by decide) (got_other (by decide) (got_other (by decide) (got_same (by repeat (first | exact isMap_empty | refine IsMap.put ?_ _ _)) 4 _)))))))), by unfold Kat; rw [if_neg (by decide)]; exact ⟨_, rfl, sw.out⟩⟩
  by_cases h5 : kd = 5
  · subst h5
    exact ⟨_, (got_other (by decide) (got_other (by decide) (got_other (by decide) (got_other (by decide) (got_other (by decide) (got_other (by decide) (got_same (by repeat (first | exact isMap_empty | refine IsMap.put ?_ _ _)) 5 _))))))), by unfold Kat; rw [if_neg (by decide)]; exact ⟨_, rfl, s5.out⟩⟩
  by_cases h6 : kd = 6
  · subst h6
    exact ⟨_, (got_other (by decide) (got_other (by decide) (got_other (by decide) (got_other (by decide) (got_other (by decide) (got_same (by repeat (first | exact isMap_empty | refine IsMap.put ?_ _ _)) 6 _)))))), by unfold Kat; rw [if_neg (by decide)]; exact ⟨_, rfl, sw.out⟩⟩
  by_cases h7 : kd = 7
  · subst h7
    exact ⟨_, (got_other (by decide) (got_other (by decide) (got_other (by decide) (got_other (by decide) (got_same (by repeat (first | exact isMap_empty | refine IsMap.put ?_ _ _)) 7 _))))), by unfold Kat; rw [if_neg (by decide)]; exact ⟨_, rfl, sw.out⟩⟩
  by_cases h8 : kd = 8
  · subst h8
    exact ⟨_, (got_other (by decide) (got_other (by decide) (got_other (by decide) (got_same (by repeat (first | exact isMap_empty | refine IsMap.put ?_ _ _)) 8 _)))), by unfold Kat; rw [if_neg (by decide)]; exact ⟨_, rfl, s8.out⟩⟩
  by_cases h9 : kd = 9
  · subst h9
    exact ⟨_, (got_other (by decide) (got_other (by decide) (got_same (by repeat (first | exact isMap_empty | refine IsMap.put ?_ _ _)) 9 _))), by unfold Kat; rw [if_neg (by decide)]; exact ⟨_, rfl, s9.out⟩⟩
  by_cases h10 : kd = 10
  · subst h10
    exact ⟨_, (got_other (by decide) (got_same (by repeat (first | exact isMap_empty | refine IsMap.put ?_ _ _)) 10 _)), by unfold Kat; rw [if_pos rfl]; rfl⟩
  by_cases h11 : kd = 11
  · subst h11
    exact ⟨_, (got_same (by repeat (first | exact isMap_empty | refine IsMap.put ?_ _ _)) 11 _), by unfold Kat; rw [if_neg (by decide)]; exact ⟨_, rfl, s11.out⟩⟩
  refine ⟨none, (got_other h11 (got_other h10 (got_other h9 (got_other h8 (got_other h7 (got_other h6 (got_other h5 (got_other h4 (got_other h3 (got_other h2 (got_other h1 (got_none kd)))))))))))), ?_⟩
  unfold Kat kfs
  rw [if_neg h10, if_neg h1, if_neg h2, if_neg h3, if_neg h4, if_neg h5, if_neg h6, if_neg h7, if_neg h8, if_neg h9, if_neg h11]
end Go.Proofs.Ytlocllcijncllaa
