/- The statement ArenaNew is proved for every input, from contracts of the functions that it calls; no condition is added. -/
import Derived.Test.YtoneandmbnfcoaaPur
import Derived.Deep.RegionHeld3
namespace Go.Proofs.Ytoneandmbnfcoaa.LArenaNew
open Go.Joins Go.ChangeShapes Go.WideShapes Go.ChangeAt Go.RowKit Go.Deep
set_option linter.unusedVariables false
set_option linter.unusedSimpArgs false

set_option maxHeartbeats 2000000 in
theorem walk_mid (k : Int) (N : Int) (A0 A1 : Option Addr) (n0 n1 c0 c1 : Nat) (h0 : 400 < k) (h1 : k ≤ 4096) (w : World) :
    Calls Try.prog 4 #[.int .i64 k, .agg #[.int .i64 N, .slice A0 n0 c0, .slice A1 n1 c1]] w fun e w' => e = .returned (.bool true) ∧ Up w w' := by
  go_enter Try.func4, Try.ntmps4
  go_wp2_with (fail)
  refine (shown_any _).mono ?_
  rintro e w1 ⟨rfl, h1⟩
  have D1 := (Blk.new w 25 _).up h1
  have U1 : Up w w1 := ((Up.refl w).alloc _).trans h1
  clear h1
  have D1c := D1.cell
  have D1l := D1.lt
  have D1f := D1.frozen
  go_wp2
  go_ret
  exact ⟨rfl, U1⟩

set_option maxHeartbeats 8000000 in
theorem walk_ok (n : Nat) (N : Int) (A0 A1 : Option Addr) (n0 n1 c0 c1 : Nat) (h0 : 16 ≤ n) (hn : n ≤ 400) (w : World) :
    Calls Try.prog 4 #[.int .i64 n, .agg #[.int .i64 N, .slice A0 n0 c0, .slice A1 n1 c1]] w fun e w' => e = .returned (.bool true) ∧ Up w w' := by
  have h1 := Lib.hid (fun w => new_ok n h0 (by omega) w)
  have h2 := Lib.hid (fun w => rnew_ok n h0 (by omega) w)
  have t0 : decide ((400 : Int) < n) = false := decide_eq_false (by omega)
  generalize (⟨n, zers n, zers n⟩ : Me) = m at h1 h2
  go_enter Try.func4, Try.ntmps4
  go_wp2_with (fail)
  refine (shown_any _).mono ?_
  rintro e w1 ⟨rfl, h1⟩
  have D1 := (Blk.new w 25 _).up h1
  have U1 : Up w w1 := ((Up.refl w).alloc _).trans h1
  clear h1
  have D1c := D1.cell
  have D1l := D1.lt
  have D1f := D1.frozen
  go_wp2_with (fail)
  refine (h1.out _).mono ?_
  rintro e w2 ⟨PX, QX, cX, dX, rfl, sX2, h2⟩
  have D2 := D1.up h2
  have U2 : Up w w2 := U1.trans h2
  clear h2 D1 D1c D1f U1
  have D2c := D2.cell
  have D2l := D2.lt
  have D2f := D2.frozen
  go_wp2_with (fail)
  refine (h2.out _).mono ?_
  rintro e w3 ⟨PY, QY, cY, dY, rfl, sY3, h3⟩
  have D3 := (D2.alloc _).up h3
  have X3 := (Blk.new w2 25 _).up h3
  have nXD3 := Nat.ne_of_gt D2l
  have nDX3 := Nat.ne_of_lt D2l
  have U3 : Up w w3 := (U2.alloc _).trans h3
  have sX3 := (sX2.up ((Up.refl _).alloc _)).up h3
  clear h3 D2 D2c D2f U2 sX2
  have D3c := D3.cell
  have D3l := D3.lt
  have D3f := D3.frozen
  have X3c := X3.cell
  have X3l := X3.lt
  have X3f := X3.frozen
  go_wp2_with (fail)
  refine (rsame_self _ _ _ _ _ _ _ _ _ _ (sX3.up ((Up.refl _).alloc _)) (sY3.up ((Up.refl _).alloc _))).mono ?_
  rintro e w4 ⟨rfl, h4⟩
  have D4 := (D3.alloc _).up h4
  have X4 := (X3.alloc _).up h4
  have Y4 := (Blk.new w3 25 _).up h4
  have nYD4 := Nat.ne_of_gt D3l
  have nDY4 := Nat.ne_of_lt D3l
  have nYX4 := Nat.ne_of_gt X3l
  have nXY4 := Nat.ne_of_lt X3l
  have U4 : Up w w4 := (U3.alloc _).trans h4
  have sX4 := (sX3.up ((Up.refl _).alloc _)).up h4
  have sY4 := (sY3.up ((Up.refl _).alloc _)).up h4
  clear h4 D3 D3c D3f X3 X3c X3f U3 sX3 sY3
  have D4c := D4.cell
  have D4l := D4.lt
  have D4f := D4.frozen
  have X4c := X4.cell
  have X4l := X4.lt
  have X4f := X4.frozen
  have Y4c := Y4.cell
  have Y4l := Y4.lt
  have Y4f := Y4.frozen
  go_wp2_with (fail)
  have DD : Blk w4.drew w.heap.size 25 #[.int .i64 N, .slice A0 n0 c0, .slice A1 n1 c1] := D4.drew
  have UU : Up w w4.drew := U4.drew
  clear D4c D4f D4l
  clear X4c X4f X4l
  clear Y4c Y4f Y4l
  go_region_held3 (fun w' => ∀ i, w'.cell? ⟨w.heap.size, i, none⟩ = (#[.int .i64 N, .slice A0 n0 c0, .slice A1 n1 c1] : Array Value)[i]?) (exact fun i => Blk.cell (g := w.heap.size) (t := 25) (cs := #[.int .i64 N, .slice A0 n0 c0, .slice A1 n1 c1]) (by assumption) i)
    (first
      | (go_at_call 27; refine (right_any N A0 A1 n0 n1 c0 c1 _).mono ?_; rintro e wz ⟨rfl, hz⟩; have DZ := Blk.up (g := w.heap.size) (t := 25) (cs := #[.int .i64 N, .slice A0 n0 c0, .slice A1 n1 c1]) (by assumption) hz; have UZ := Up.trans (a := w) (by assumption) hz)
      | (go_at_call 28; refine (rright_any N A0 A1 n0 n1 c0 c1 _).mono ?_; rintro e wz ⟨rfl, hz⟩; have DZ := Blk.up (g := w.heap.size) (t := 25) (cs := #[.int .i64 N, .slice A0 n0 c0, .slice A1 n1 c1]) (by assumption) hz; have UZ := Up.trans (a := w) (by assumption) hz))
  all_goals
    go_wp2
    go_ret
    exact ⟨rfl, by assumption⟩

set_option maxHeartbeats 8000000 in
theorem walk_lo (k : Int) (N : Int) (A0 A1 : Option Addr) (n0 n1 c0 c1 : Nat) (hk : k < 16) (w : World) :
    Calls Try.prog 4 #[.int .i64 k, .agg #[.int .i64 N, .slice A0 n0 c0, .slice A1 n1 c1]] w fun e w' => e = .returned (.bool true) ∧ Up w w' := by
  have hb : bnd k = 1 := by unfold bnd; exact if_pos hk
  have h1 := Lib.hid (fun w => new_no k 1 (by decide) hb w)
  have h2 := Lib.hid (fun w => rnew_no k 1 (by decide) hb w)
  have h3 := Lib.hid (fun (W : World) => show Calls Try.prog 21 #[.agg #[.int .i64 0, .slice none 0 0, .slice none 0 0], .agg #[.int .i64 0, .slice none 0 0, .slice none 0 0]] W fun e w' => e = .returned (.bool true) ∧ Up W w' from by
    have e : ∀ W : World, Rd W none 0 [] := fun W => ⟨rfl, fun q => absurd q (by omega)⟩
    have h := rsame_any ⟨0, [], []⟩ ⟨0, [], []⟩ none none none none 0 0 0 0 0 0 0 0 W ⟨e W, e W, Nat.zero_le _, Nat.zero_le _⟩ ⟨e W, e W, Nat.zero_le _, Nat.zero_le _⟩
    rw [Ma.same_self] at h
    exact h)
  have t0 : decide (400 < k) = false := decide_eq_false (by omega)
  clear hb
  go_enter Try.func4, Try.ntmps4
  go_wp2_with (fail)
  refine (shown_any _).mono ?_
  rintro e w1 ⟨rfl, h1⟩
  have D1 := (Blk.new w 25 _).up h1
  have U1 : Up w w1 := ((Up.refl w).alloc _).trans h1
  clear h1
  have D1c := D1.cell
  have D1l := D1.lt
  have D1f := D1.frozen
  go_wp2_with (fail)
  refine (h1.out _).mono ?_
  rintro e w2 ⟨rfl, h2⟩
  have D2 := D1.up h2
  have U2 : Up w w2 := U1.trans h2
  clear h2 D1 D1c D1f U1
  have D2c := D2.cell
  have D2l := D2.lt
  have D2f := D2.frozen
  go_wp2_with (fail)
  refine (h2.out _).mono ?_
  rintro e w3 ⟨rfl, h3⟩
  have D3 := (D2.alloc _).up h3
  have X3 := (Blk.new w2 25 _).up h3
  have nXD3 := Nat.ne_of_gt D2l
  have nDX3 := Nat.ne_of_lt D2l
  have U3 : Up w w3 := (U2.alloc _).trans h3
  clear h3 D2 D2c D2f U2
  have D3c := D3.cell
  have D3l := D3.lt
  have D3f := D3.frozen
  have X3c := X3.cell
  have X3l := X3.lt
  have X3f := X3.frozen
  go_wp2_with (fail)
  refine (h3.out _).mono ?_
  rintro e w4 ⟨rfl, h4⟩
  have D4 := (D3.alloc _).up h4
  have X4 := (X3.alloc _).up h4
  have Y4 := (Blk.new w3 25 _).up h4
  have nYD4 := Nat.ne_of_gt D3l
  have nDY4 := Nat.ne_of_lt D3l
  have nYX4 := Nat.ne_of_gt X3l
  have nXY4 := Nat.ne_of_lt X3l
  have U4 : Up w w4 := (U3.alloc _).trans h4
  clear h4 D3 D3c D3f X3 X3c X3f U3
  have D4c := D4.cell
  have D4l := D4.lt
  have D4f := D4.frozen
  have X4c := X4.cell
  have X4l := X4.lt
  have X4f := X4.frozen
  have Y4c := Y4.cell
  have Y4l := Y4.lt
  have Y4f := Y4.frozen
  go_wp2_with (fail)
  have DD : Blk w4.drew w.heap.size 25 #[.int .i64 N, .slice A0 n0 c0, .slice A1 n1 c1] := D4.drew
  have UU : Up w w4.drew := U4.drew
  clear D4c D4f D4l
  clear X4c X4f X4l
  clear Y4c Y4f Y4l
  go_region_held3 (fun w' => ∀ i, w'.cell? ⟨w.heap.size, i, none⟩ = (#[.int .i64 N, .slice A0 n0 c0, .slice A1 n1 c1] : Array Value)[i]?) (exact fun i => Blk.cell (g := w.heap.size) (t := 25) (cs := #[.int .i64 N, .slice A0 n0 c0, .slice A1 n1 c1]) (by assumption) i)
    (first
      | (go_at_call 27; refine (right_any N A0 A1 n0 n1 c0 c1 _).mono ?_; rintro e wz ⟨rfl, hz⟩; have DZ := Blk.up (g := w.heap.size) (t := 25) (cs := #[.int .i64 N, .slice A0 n0 c0, .slice A1 n1 c1]) (by assumption) hz; have UZ := Up.trans (a := w) (by assumption) hz)
      | (go_at_call 28; refine (rright_any N A0 A1 n0 n1 c0 c1 _).mono ?_; rintro e wz ⟨rfl, hz⟩; have DZ := Blk.up (g := w.heap.size) (t := 25) (cs := #[.int .i64 N, .slice A0 n0 c0, .slice A1 n1 c1]) (by assumption) hz; have UZ := Up.trans (a := w) (by assumption) hz))
  all_goals
    go_wp2
    go_ret
    exact ⟨rfl, by assumption⟩

set_option maxHeartbeats 8000000 in
theorem walk_hi (k : Int) (N : Int) (A0 A1 : Option Addr) (n0 n1 c0 c1 : Nat) (hk : 4096 < k) (w : World) :
    Calls Try.prog 4 #[.int .i64 k, .agg #[.int .i64 N, .slice A0 n0 c0, .slice A1 n1 c1]] w fun e w' => e = .returned (.bool true) ∧ Up w w' := by
  have hb : bnd k = 3 := by unfold bnd; rw [if_neg (by omega), if_pos hk]
  have h1 := Lib.hid (fun w => new_no k 3 (by decide) hb w)
  have h2 := Lib.hid (fun w => rnew_no k 3 (by decide) hb w)
  have h3 := Lib.hid (fun (W : World) => show Calls Try.prog 21 #[.agg #[.int .i64 0, .slice none 0 0, .slice none 0 0], .agg #[.int .i64 0, .slice none 0 0, .slice none 0 0]] W fun e w' => e = .returned (.bool true) ∧ Up W w' from by
    have e : ∀ W : World, Rd W none 0 [] := fun W => ⟨rfl, fun q => absurd q (by omega)⟩
    have h := rsame_any ⟨0, [], []⟩ ⟨0, [], []⟩ none none none none 0 0 0 0 0 0 0 0 W ⟨e W, e W, Nat.zero_le _, Nat.zero_le _⟩ ⟨e W, e W, Nat.zero_le _, Nat.zero_le _⟩
    rw [Ma.same_self] at h
    exact h)
  have t0 : decide (400 < k) = true := decide_eq_true (by omega)
  have t1 : decide (k ≤ 4096) = false := decide_eq_false (by omega)
  clear hb
  go_enter Try.func4, Try.ntmps4
  go_wp2_with (fail)
  refine (shown_any _).mono ?_
  rintro e w1 ⟨rfl, h1⟩
  have D1 := (Blk.new w 25 _).up h1
  have U1 : Up w w1 := ((Up.refl w).alloc _).trans h1
  clear h1
  have D1c := D1.cell
  have D1l := D1.lt
  have D1f := D1.frozen
  go_wp2_with (fail)
  refine (h1.out _).mono ?_
  rintro e w2 ⟨rfl, h2⟩
  have D2 := D1.up h2
  have U2 : Up w w2 := U1.trans h2
  clear h2 D1 D1c D1f U1
  have D2c := D2.cell
  have D2l := D2.lt
  have D2f := D2.frozen
  go_wp2_with (fail)
  refine (h2.out _).mono ?_
  rintro e w3 ⟨rfl, h3⟩
  have D3 := (D2.alloc _).up h3
  have X3 := (Blk.new w2 25 _).up h3
  have nXD3 := Nat.ne_of_gt D2l
  have nDX3 := Nat.ne_of_lt D2l
  have U3 : Up w w3 := (U2.alloc _).trans h3
  clear h3 D2 D2c D2f U2
  have D3c := D3.cell
  have D3l := D3.lt
  have D3f := D3.frozen
  have X3c := X3.cell
  have X3l := X3.lt
  have X3f := X3.frozen
  go_wp2_with (fail)
  refine (h3.out _).mono ?_
  rintro e w4 ⟨rfl, h4⟩
  have D4 := (D3.alloc _).up h4
  have X4 := (X3.alloc _).up h4
  have Y4 := (Blk.new w3 25 _).up h4
  have nYD4 := Nat.ne_of_gt D3l
  have nDY4 := Nat.ne_of_lt D3l
  have nYX4 := Nat.ne_of_gt X3l
  have nXY4 := Nat.ne_of_lt X3l
  have U4 : Up w w4 := (U3.alloc _).trans h4
  clear h4 D3 D3c D3f X3 X3c X3f U3
  have D4c := D4.cell
  have D4l := D4.lt
  have D4f := D4.frozen
  have X4c := X4.cell
  have X4l := X4.lt
  have X4f := X4.frozen
  have Y4c := Y4.cell
  have Y4l := Y4.lt
  have Y4f := Y4.frozen
  go_wp2_with (fail)
  have DD : Blk w4.drew w.heap.size 25 #[.int .i64 N, .slice A0 n0 c0, .slice A1 n1 c1] := D4.drew
  have UU : Up w w4.drew := U4.drew
  clear D4c D4f D4l
  clear X4c X4f X4l
  clear Y4c Y4f Y4l
  go_region_held3 (fun w' => ∀ i, w'.cell? ⟨w.heap.size, i, none⟩ = (#[.int .i64 N, .slice A0 n0 c0, .slice A1 n1 c1] : Array Value)[i]?) (exact fun i => Blk.cell (g := w.heap.size) (t := 25) (cs := #[.int .i64 N, .slice A0 n0 c0, .slice A1 n1 c1]) (by assumption) i)
    (first
      | (go_at_call 27; refine (right_any N A0 A1 n0 n1 c0 c1 _).mono ?_; rintro e wz ⟨rfl, hz⟩; have DZ := Blk.up (g := w.heap.size) (t := 25) (cs := #[.int .i64 N, .slice A0 n0 c0, .slice A1 n1 c1]) (by assumption) hz; have UZ := Up.trans (a := w) (by assumption) hz)
      | (go_at_call 28; refine (rright_any N A0 A1 n0 n1 c0 c1 _).mono ?_; rintro e wz ⟨rfl, hz⟩; have DZ := Blk.up (g := w.heap.size) (t := 25) (cs := #[.int .i64 N, .slice A0 n0 c0, .slice A1 n1 c1]) (by assumption) hz; have UZ := Up.trans (a := w) (by assumption) hz))
  all_goals
    go_wp2
    go_ret
    exact ⟨rfl, by assumption⟩

theorem walk (k : Int) (N : Int) (A0 A1 : Option Addr) (n0 n1 c0 c1 : Nat) (w : World) : Calls Try.prog 4 #[.int .i64 k, .agg #[.int .i64 N, .slice A0 n0 c0, .slice A1 n1 c1]] w fun e w' => e = .returned (.bool true) ∧ Up w w' := by
  by_cases h0 : k < 16
  · exact walk_lo k N A0 A1 n0 n1 c0 c1 h0 w
  by_cases h1 : 4096 < k
  · exact walk_hi k N A0 A1 n0 n1 c0 c1 h1 w
  by_cases h2 : 400 < k
  · exact walk_mid k N A0 A1 n0 n1 c0 c1 h2 (by omega) w
  · obtain ⟨n, rfl⟩ : ∃ n : Nat, k = n := ⟨k.toNat, by omega⟩
    exact walk_ok n N A0 A1 n0 n1 c0 c1 (by omega) (by omega) w
theorem opened {H : Type} {enc : TypeId × Value → H} {w : World} {r : Reach} {b0 : Nat} {v : Value} {d : DataW H} {p : List MemPlace} (hv : Value.okWide Try.prog w r b0 25 v) (h : DataW.Trod enc Try.prog w 0 (fun _ => true) true 25 v d p) :
    ∃ (N : Int) (A0 A1 : Option Addr) (n0 n1 c0 c1 : Nat) (xs ys : List Int), v = .agg #[.int .i64 N, .slice A0 n0 c0, .slice A1 n1 c1] ∧ I64 N ∧ SlOk w A0 n0 c0 xs ∧ SlOk w A1 n1 c1 ys := by
  obtain ⟨⟨l⟩, rfl, hsz⟩ := okWide_struct Try.underlying25 hv
  match l, hsz.trans cells_mem with
  | [z0, z1, z2], _ =>
    obtain ⟨fuel, hf⟩ := h
    obtain ⟨N, A0, A1, n0, n1, c0, c1, xs, ys, rfl, rfl, rfl, h1, h2, h3⟩ := mem_open (v0 := z0) (v1 := z1) (v2 := z2) hf
    exact ⟨N, A0, A1, n0, n1, c0, c1, xs, ys, rfl, h1, h2, h3⟩

theorem own : ownKnob Try.prog.godebug = none := by kernel_rfl
set_option maxRecDepth 100000 in
theorem lifted (os : Os) (started : os.Started) (H : Type) (enc : TypeId × Value → H) :
    ReturnsInHanded {} Try.checked os 4 .any (Rows.arenaNewSpec.pre6 enc Try.prog Try.f4 Rows.arenaNewRow.domain false) (Rows.arenaNewSpec.post enc Try.prog Try.f4 false true false false) := by
  refine returnsInHanded_of_change (C := Try.checked) own started (by kernel_rfl) Try.func4
    (ChangeSpec.witness6 (enc := enc) (C := Try.checked) false ⟨#[], #[.int .i64 0, .agg #[.int .i64 0, .slice none 0 0, .slice none 0 0]], []⟩ 8 (by kernel_rfl) (by kernel_rfl) (by kernel_rfl) (by kernel_rfl)) ?_
  intro W base args ds gs before hval0 hW hcnd _
  have hval : ∀ (j : Nat) t v, Try.f4.params[j]? = some t → args[j]? = some v → Value.okWide Try.prog W .any base t v := hval0
  have hW' := hW
  obtain ⟨p, q, hA0, hV, rfl, hfz, hnd⟩ := hW
  have hA : DataW.TrodAll enc Try.prog W 0 (fun _ => true) true Try.f4.params.toList args.toList ds p := hA0
  rw [Try.params4] at hA hval
  obtain ⟨v0, vs0, d0, ds0, p0, q0, hargs, rfl, rfl, h0, r0⟩ := trodAll_cons hA
  obtain ⟨v1, vs1, d1, ds1, p1, q1, rfl, rfl, rfl, h1, r1⟩ := trodAll_cons r0
  obtain ⟨rfl, rfl, rfl⟩ := trodAll_nil r1
  obtain rfl : args = #[v0, v1] := by cases args; simp_all
  obtain ⟨rfl, rfl⟩ := trodVars_none hV
  obtain ⟨a0, rfl, rfl, rfl, w0⟩ := open_int Try.underlying3 (hval 0 3 v0 rfl rfl) h0
  have h1k := h1
  obtain ⟨N, A0, A1, n0, n1, c0, c1, xs, ys, rfl, hN, hx, hy⟩ := opened (hval 1 25 v1 rfl rfl) h1
  clear hA0 hval0
  simp only [List.append_nil, List.nil_append] at hW'
  refine (walk a0 N A0 A1 n0 n1 c0 c1 W).mono fun e W' ⟨he, hg⟩ => ?_
  subst he
  exact ⟨_, rfl, post_below (pa := p1) (pv := []) hW' (fun _ _ _ => (trodAll_cons_mk (shut_bool Try.underlying4 _) trodAll_mk0))
    (fun sp hsp => by
      have t := (trodAll_cons_mk (shut_int Try.underlying3 w0) (trodAll_cons_mk (trod_keeps (sp := sp) (by kernel_rfl) (of_decide_eq_true (by kernel_rfl)) h1k hg (fun x hx => hW'.lt x (by simpa using hx)) (fun x hx => hsp x (by simpa using hx))) trodAll_mk0))
      simp only [List.append_nil, List.nil_append] at t
      exact t) (fun _ _ => rfl) (by simp)
    hg (ok_one (by kernel_rfl) rfl (okWide_bool_mk Try.underlying4 _))⟩

theorem over : Rows.arenaNewRow.holds Try.pinned (OpenSpec.ofChange Rows.arenaNewSpec) :=
  OpenClaim.holds_of_wide 4 Try.f4 rfl rfl rfl rfl rfl rfl rfl ⟨rfl, rfl, rfl, rfl, rfl⟩ rfl rfl rfl rfl rfl (by kernel_rfl) Try.func4 (by kernel_rfl)
    (of_decide_eq_true (by kernel_rfl)) (by unfold Func.isWrapper; first | (rw [if_pos (by decide +kernel)]; kernel_rfl) | (rw [if_neg (by decide +kernel)]; exact ⟨rfl, rfl⟩))
    (fun os started H enc _ => lifted os started H enc)

theorem proved : Rows.ArenaNewSaid :=
  over
#print axioms proved
end Go.Proofs.Ytoneandmbnfcoaa.LArenaNew
