/- H's node (graph's deed: node, field, scalar, pointer): contracts. -/
import Derived.Test.YtlocllcijncllaaGf
namespace Go.Proofs.Ytlocllcijncllaa
open Go.Joins Go.ChangeShapes Go.WideShapes Go.ChangeAt Go.RowKit Go.Deep Go.Shelf Go.Maps
set_option linter.unusedVariables false
set_option linter.unusedSimpArgs false

theorem Up.cell {w w' : World} {a : Addr} {v : Value} (k : Up w w') (h : w.cell? a = some v) : w'.cell? a = some v := (Below.cell k (lt_of_cell h)).trans h
theorem Qt.u {P : Program} {f : FuncId} {args : Array Value} {v : Value} {w w' : World} (h : Calls P f args w (Qt v w')) (k : w' = w) : Calls P f args w fun e w'' => e = .returned v ∧ Up w w'' := h.mono fun e w'' ⟨h1, m, h2⟩ => ⟨h1, by rw [h2, k]; exact (Up.refl _).drewN _⟩
theorem unless_up (b : Bool) (x : Int) (w : World) : Calls Try.prog 78 #[.bool b, .int .i64 x] w fun e w' => e = .returned (.int .i64 (if b then 0 else x)) ∧ Up w w' := (unless_any b x w).mono fun e w' ⟨h, k⟩ => ⟨h, by rw [k]; exact Up.refl _⟩
theorem quietU {P : Program} {f : FuncId} {args : Array Value} {W : World} {n : Nat} {v : Value} (h : Calls P f args (W.drewN n) fun e w' => e = .returned v ∧ W.drewN n = w') : Calls P f args (W.drewN n) fun e w'' => e = .returned v ∧ ∃ m, w'' = W.drewN m :=
  h.mono (fun e w' q => ⟨q.1, n, q.2.symm⟩)
theorem drew2 (w : World) (a b : Nat) : ∃ m, (w.drewN a).drewN b = w.drewN m := ⟨_, World.drewN_drewN _ _ _⟩
theorem drew3 (w : World) (a b c : Nat) : ∃ m, ((w.drewN a).drewN b).drewN c = w.drewN m := ⟨a + (b + c), by rw [World.drewN_drewN, World.drewN_drewN]⟩
theorem Qt.q {P : Program} {f : FuncId} {args : Array Value} {v : Value} {w : World} {m : Nat} (h : Calls P f args (w.drewN m) (Qt v (w.drewN m))) : Calls P f args (w.drewN m) fun e w' => e = .returned v ∧ ∃ n, w' = w.drewN n :=
  h.mono fun e w' ⟨h1, k, h2⟩ => ⟨h1, m + k, by rw [h2, World.drewN_drewN]⟩
set_option maxHeartbeats 1000000 in
theorem node_in (D : Nat) (vn vs : Value) (th : Int) (o : Op) (s : Kn) (g : Gr) (us : List Value) (w : World) (hD : Blk w D 70 (dcs vn vs th o s)) (hns : NsW w vn us g.1) (hin : inN g s.h) :
    ∃ (p : Addr) (u : Value), us[s.h.toNat - 1]? = some u ∧ NdAt w (p.add ((s.h.toNat - 1) * 4)) (ndOf g s.h) u ∧ Sl .u64 w u (ndOf g s.h).2 ∧ ∀ w', Up w w' → Calls Try.prog 77 #[.pointer (some ⟨D, 0, none⟩)] w' (Qt (.pointer (some (p.add ((s.h.toNat - 1) * 4)))) w') := by
  obtain ⟨h1, h2⟩ := hin
  unfold ndOf
  obtain ⟨j, hj⟩ : ∃ j : Nat, s.h = (j : Int) + 1 := ⟨s.h.toNat - 1, by omega⟩
  have hjt : s.h.toNat - 1 = j := by omega
  rw [hjt]
  obtain ⟨A, c, rfl, -⟩ := id hns
  have hjl : j < g.1.length := by omega
  obtain ⟨p, u, rfl, hu, hnd, hs⟩ := hns.at_ hjl
  refine ⟨p, u, hu, hnd, hs, fun w' hU => ?_⟩
  have hmax : g.1.length ≤ maxLen := by
    obtain ⟨A', c', e, q1, q2, _⟩ := hns
    cases e
    omega
  unfold maxLen at hmax
  have hcD := (hD.up hU).cell
  unfold dcs at hcD
  have hlD := (hD.up hU).lt
  have hp := hU.lt (lt_of_cell hnd.1)
  rw [hj] at hcD
  clear hU hD hns hnd hs hu hj hjt h1 h2
  generalize g.1.length = n at *
  have d1 : decide ((j : Int) + 1 < 1) = false := decide_eq_false (by omega)
  have d2 : decide ((j : Int) + 1 > (n : Int)) = false := decide_eq_false (by omega)
  go_enter Try.func77, Try.ntmps77
  go_wp2
  go_quiet (fail)
  go_wp2
  go_quiet (fail)
  go_wp2
  go_ret
  exact ⟨rfl, drew2 _ _ _⟩
set_option maxHeartbeats 1000000 in
theorem node_out (D : Nat) (vn vs : Value) (th : Int) (o : Op) (s : Kn) (g : Gr) (us : List Value) (w : World) (hD : Blk w D 70 (dcs vn vs th o s)) (hns : NsW w vn us g.1) (hin : ¬ inN g s.h) :
    ∀ w', Up w w' → Calls Try.prog 77 #[.pointer (some ⟨D, 0, none⟩)] w' (Qt (.pointer none) w') := by
  intro w' hU
  obtain ⟨A, c, rfl, q1, q2, -⟩ := hns
  have hmax : g.1.length ≤ maxLen := by omega
  unfold maxLen at hmax
  have hcD := (hD.up hU).cell
  unfold dcs at hcD
  have hlD := (hD.up hU).lt
  unfold inN at hin
  clear hD hU
  generalize g.1.length = n at *
  generalize s.h = hv at *
  by_cases h1 : hv < 1
  · have d1 : decide (hv < 1) = true := decide_eq_true h1
    clear hin h1
    go_enter Try.func77, Try.ntmps77
    go_wp2
    go_quiet (fail)
    go_wp2
    go_ret
    exact ⟨rfl, _, rfl⟩
  · have d1 : decide (hv < 1) = false := decide_eq_false h1
    have d2 : decide (hv > (n : Int)) = true := decide_eq_true (by omega)
    clear hin h1
    go_enter Try.func77, Try.ntmps77
    go_wp2
    go_quiet (fail)
    go_wp2
    go_ret
    exact ⟨rfl, _, rfl⟩

/-- The field I of H. -/
def fde (g : Gr) (th : Int) (o : Op) : Int := if gte (rowOf g th) o.h = 0 then (if inN g (gtv (rowOf g th) o.h) then (if 0 ≤ o.i ∧ o.i < (ndOf g (gtv (rowOf g th) o.h)).2.length then 0 else 7) else 6) else 5
/-- Is a node's field a pointer? -/
def isP (n : Nd) (i : Int) : Bool := ptb n.1.2.1 n.1.2.2 i
/-- Heads' words are words. -/
def MapOk (g : Gr) : Prop := ∀ n ∈ g.1, 0 ≤ n.1.2.2 ∧ n.1.2.2 ≤ 18446744073709551615
theorem MapOk.nd {g : Gr} (h : MapOk g) {n : Int} (hn : inN g n) : 0 ≤ (ndOf g n).1.2.2 ∧ (ndOf g n).1.2.2 ≤ 18446744073709551615 := by
  obtain ⟨h0, h1⟩ := hn
  refine h _ ?_
  unfold ndOf
  have : n.toNat - 1 < g.1.length := by omega
  simp [List.getD, List.getElem?_eq_getElem this]
set_option maxHeartbeats 1000000 in
theorem scalar_st (base D : Nat) (g : Gr) (th : Int) (o : Op) (s : Kn) (w : World) (hS : St base D w g th o s) (hin : inN g s.h) (hm : MapOk g) (hi : o.i ≤ 62) :
    Calls Try.prog 58 #[.pointer (some ⟨D, 0, none⟩)] w (Sp base D (if isP (ndOf g s.h) o.i then 8 else 0) g th o s w) := by
  have HS := Lib.hid hS
  obtain ⟨vn, vs, us, us2, BF, GS, BS, hD, hO, hB⟩ := hS
  obtain ⟨p, u, -, ⟨c0, c1, c2, c3⟩, hs, hn⟩ := node_in D vn vs th o s g us w hD hO.ns hin
  have hp := Lib.hid (fun (w : World) => ptr_any (ndOf g s.h).1.1 (ndOf g s.h).1.2.1 (ndOf g s.h).1.2.2 o.i (hm.nd hin).1 (hm.nd hin).2 hi w)
  have hu := Lib.hid (fun (w : World) => unless_up (!isP (ndOf g s.h) o.i) 8 w)
  have e : (if (!isP (ndOf g s.h) o.i) = true then (0 : Int) else 8) = if isP (ndOf g s.h) o.i then 8 else 0 := by cases isP (ndOf g s.h) o.i <;> rfl
  rw [e] at hu
  generalize (if isP (ndOf g s.h) o.i then (8 : Int) else 0) = x at *
  unfold isP at hu
  have HN := Lib.hid (fun w' hU => Qt.u (hn w' hU) rfl)
  generalize p.add ((s.h.toNat - 1) * 4) = q at *
  clear hn hs hO hB e hin hm hi
  have D0 := hD.drew
  have UW := (Up.refl w).drew
  have U0 := Up.refl w.drew
  have c0' : w.drew.cell? q = some (.int .i64 (ndOf g s.h).1.1) := c0
  have c1' : w.drew.cell? ⟨q.block, q.off + 1, none⟩ = some (.int .i64 (ndOf g s.h).1.2.1) := c1
  have c2' : w.drew.cell? ⟨q.block, q.off + 2, none⟩ = some (.int .u64 (ndOf g s.h).1.2.2) := c2
  clear c0 c1 c2 c3 hD
  generalize ndOf g s.h = nd at *
  go_enter Try.func58, Try.ntmps58
  go_wp2_with (fail)
  go_region_held3 (fun w' => (∀ i, w'.cell? ⟨D, i, none⟩ = (#[vn, vs, .int .i64 th, .int .i64 o.kd, .int .i64 o.h, .int .i64 o.i, .int .i64 o.k, .int .u64 o.v, .int .i64 o.t, .int .i64 o.l, .int .u64 o.m, .int .i64 s.h, .int .i64 s.k, .int .i64 s.e, .int .u64 s.v, .bool s.y] : Array Value)[i]?) ∧ w'.cell? q = some (.int .i64 nd.1.1) ∧ w'.cell? ⟨q.block, q.off + 1, none⟩ = some (.int .i64 nd.1.2.1) ∧ w'.cell? ⟨q.block, q.off + 2, none⟩ = some (.int .u64 nd.1.2.2))
    (exact ⟨fun i => (Blk.up D0 (by assumption)).cell i, Up.cell (by assumption) c0', Up.cell (by assumption) c1', Up.cell (by assumption) c2'⟩)
    (first
      | (go_at_call 77; ((with_reducible refine (HN.out _ (Up.trans UW (by assumption))).mono ?_); rintro e wz ⟨rfl, hz⟩; have UZ : Up w.drew wz := Up.trans (by assumption) hz))
      | (go_at_call 25; ((with_reducible refine (hp.out _).mono ?_); rintro e wz ⟨rfl, hz⟩; have UZ : Up w.drew wz := Up.trans (by assumption) hz))
      | (go_at_call 78; ((with_reducible refine (hu.out _).mono ?_); rintro e wz ⟨rfl, hz⟩; have UZ : Up w.drew wz := Up.trans (by assumption) hz)))
  all_goals
    go_wp2
    go_ret
    exact ⟨rfl, .of_up (UW.trans UZ), HS.out.up (UW.trans UZ)⟩
set_option maxHeartbeats 1000000 in
theorem pointer_st (base D : Nat) (g : Gr) (th : Int) (o : Op) (s : Kn) (w : World) (hS : St base D w g th o s) (hin : inN g s.h) (hm : MapOk g) (hi : o.i ≤ 62) :
    Calls Try.prog 64 #[.pointer (some ⟨D, 0, none⟩)] w (Sp base D (if isP (ndOf g s.h) o.i then 0 else 8) g th o s w) := by
  have HS := Lib.hid hS
  obtain ⟨vn, vs, us, us2, BF, GS, BS, hD, hO, hB⟩ := hS
  obtain ⟨p, u, -, ⟨c0, c1, c2, c3⟩, hs, hn⟩ := node_in D vn vs th o s g us w hD hO.ns hin
  have hp := Lib.hid (fun (w : World) => ptr_any (ndOf g s.h).1.1 (ndOf g s.h).1.2.1 (ndOf g s.h).1.2.2 o.i (hm.nd hin).1 (hm.nd hin).2 hi w)
  have hu := Lib.hid (fun (w : World) => unless_up (isP (ndOf g s.h) o.i) 8 w)
  generalize (if isP (ndOf g s.h) o.i then (0 : Int) else 8) = x at *
  unfold isP at hu
  have HN := Lib.hid (fun w' hU => Qt.u (hn w' hU) rfl)
  generalize p.add ((s.h.toNat - 1) * 4) = q at *
  clear hn hs hO hB hin hm hi
  have D0 := hD.drew
  have UW := (Up.refl w).drew
  have U0 := Up.refl w.drew
  have c0' : w.drew.cell? q = some (.int .i64 (ndOf g s.h).1.1) := c0
  have c1' : w.drew.cell? ⟨q.block, q.off + 1, none⟩ = some (.int .i64 (ndOf g s.h).1.2.1) := c1
  have c2' : w.drew.cell? ⟨q.block, q.off + 2, none⟩ = some (.int .u64 (ndOf g s.h).1.2.2) := c2
  clear c0 c1 c2 c3 hD
  generalize ndOf g s.h = nd at *
  go_enter Try.func64, Try.ntmps64
  go_wp2_with (fail)
  go_region_held3 (fun w' => (∀ i, w'.cell? ⟨D, i, none⟩ = (#[vn, vs, .int .i64 th, .int .i64 o.kd, .int .i64 o.h, .int .i64 o.i, .int .i64 o.k, .int .u64 o.v, .int .i64 o.t, .int .i64 o.l, .int .u64 o.m, .int .i64 s.h, .int .i64 s.k, .int .i64 s.e, .int .u64 s.v, .bool s.y] : Array Value)[i]?) ∧ w'.cell? q = some (.int .i64 nd.1.1) ∧ w'.cell? ⟨q.block, q.off + 1, none⟩ = some (.int .i64 nd.1.2.1) ∧ w'.cell? ⟨q.block, q.off + 2, none⟩ = some (.int .u64 nd.1.2.2))
    (exact ⟨fun i => (Blk.up D0 (by assumption)).cell i, Up.cell (by assumption) c0', Up.cell (by assumption) c1', Up.cell (by assumption) c2'⟩)
    (first
      | (go_at_call 77; ((with_reducible refine (HN.out _ (Up.trans UW (by assumption))).mono ?_); rintro e wz ⟨rfl, hz⟩; have UZ : Up w.drew wz := Up.trans (by assumption) hz))
      | (go_at_call 25; ((with_reducible refine (hp.out _).mono ?_); rintro e wz ⟨rfl, hz⟩; have UZ : Up w.drew wz := Up.trans (by assumption) hz))
      | (go_at_call 78; ((with_reducible refine (hu.out _).mono ?_); rintro e wz ⟨rfl, hz⟩; have UZ : Up w.drew wz := Up.trans (by assumption) hz)))
  all_goals
    go_wp2
    go_ret
    exact ⟨rfl, .of_up (UW.trans UZ), HS.out.up (UW.trans UZ)⟩

set_option maxHeartbeats 2000000 in
theorem field_st (base D : Nat) (g : Gr) (th : Int) (o : Op) (s : Kn) (w : World) (hS : St base D w g th o s) (ht : isTh g th) :
    Calls Try.prog 57 #[.pointer (some ⟨D, 0, none⟩)] w (Sp base D (fde g th o) g th o { s with h := gtv (rowOf g th) o.h } w) := by
  have hf := Lib.hid (first_st base D g th o s w hS ht)
  have hg0 : gte (rowOf g th) o.h = 0 ∨ (gte (rowOf g th) o.h = 5 ∧ gtv (rowOf g th) o.h = 0) := by
    unfold gte gtv
    split
    · exact .inl rfl
    · exact .inr ⟨rfl, rfl⟩
  unfold fde
  generalize gtv (rowOf g th) o.h = hv at *
  have HNODE : Hid (∀ w1, St base D w1 g th o { s with h := hv } → ∃ r, (¬ inN g hv → r = .pointer none) ∧ (inN g hv → ∃ (q : Addr) (A : Option Addr) (c : Nat), r = .pointer (some q) ∧ w1.cell? ⟨q.block, q.off + 3, none⟩ = some (.slice A (ndOf g hv).2.length c) ∧ q.block < w1.heap.size) ∧ Calls Try.prog 77 #[.pointer (some ⟨D, 0, none⟩)] w1 (Qt r w1)) := Lib.hid (fun w1 h1 => by
    obtain ⟨vn, vs, us, us2, BF, GS, BS, hD, hO, hB⟩ := h1
    by_cases hin : inN g hv
    · obtain ⟨p, u, -, ⟨c0, c1, c2, c3⟩, hs, hn⟩ := node_in D vn vs th o { s with h := hv } g us w1 hD hO.ns hin
      obtain ⟨A, c, rfl, -⟩ := hs
      exact ⟨_, fun q => absurd hin q, fun _ => ⟨_, A, c, rfl, c3, lt_of_cell c0⟩, hn _ (Up.refl _)⟩
    · exact ⟨_, fun _ => rfl, fun q => absurd q hin, node_out D vn vs th o { s with h := hv } g us w1 hD hO.ns hin _ (Up.refl _)⟩)
  rcases hg0 with h0 | ⟨h0, rfl⟩
  · rw [if_pos h0]
    rw [h0] at hf
    by_cases hin : inN g hv
    · rw [if_pos hin]
      by_cases hi : 0 ≤ o.i ∧ o.i < (ndOf g hv).2.length
      · rw [if_pos hi]
        obtain ⟨hi0, hi1⟩ := hi
        have d0 : decide (o.i ≥ 0) = true := decide_eq_true hi0
        have d1 : decide (o.i < ((ndOf g hv).2.length : Int)) = true := decide_eq_true hi1
        generalize (ndOf g hv).2.length = ln at *
        have hu := Lib.hid (fun (w : World) => unless_any true 7 w)
        go_enter Try.func57, Try.ntmps57
        go_wp2_with (fail)
        refine hf.out.mono ?_
        rintro e w1 ⟨rfl, hK1, hS1⟩
        obtain ⟨r, -, hr, hn⟩ := HNODE.out w1 hS1
        obtain ⟨q, A, c, rfl, c3, hq⟩ := hr hin
        have HK1 := Lib.hid hK1
        have HS1 := Lib.hid hS1
        have hn := Lib.hid hn
        obtain ⟨vn, vs, us, us2, BF, GS, BS, hD, -⟩ := hS1
        clear hK1 hr
        go_wp2_with (fail)
        refine hn.out.mono ?_
        rintro e w2 ⟨rfl, m, hw2⟩
        have hu2 : Up w1 w2 := by rw [hw2]; exact (Up.refl w1).drewN m
        clear hw2
        have hcD := (hD.up hu2).cell
        unfold dcs at hcD
        have hlD := (hD.up hu2).lt
        have c3 := hu2.cell c3
        have hq := hu2.lt hq
        have HU2 := Lib.hid hu2
        clear hD hn hu2
        go_wp2_with (fail)
        go_quiet ((go_at_call 78; with_reducible exact quietU (hu.out _)))
        go_wp2
        go_ret
        exact ⟨rfl, HK1.out.up (HU2.out.drewN _), HS1.out.up (HU2.out.drewN _)⟩
      · rw [if_neg hi]
        by_cases hi0 : 0 ≤ o.i
        · have d0 : decide (o.i ≥ 0) = true := decide_eq_true hi0
          have d1 : decide (o.i < ((ndOf g hv).2.length : Int)) = false := decide_eq_false (by omega)
          generalize (ndOf g hv).2.length = ln at *
          have hu := Lib.hid (fun (w : World) => unless_any false 7 w)
          go_enter Try.func57, Try.ntmps57
          go_wp2_with (fail)
          refine hf.out.mono ?_
          rintro e w1 ⟨rfl, hK1, hS1⟩
          obtain ⟨r, -, hr, hn⟩ := HNODE.out w1 hS1
          obtain ⟨q, A, c, rfl, c3, hq⟩ := hr hin
          have HK1 := Lib.hid hK1
          have HS1 := Lib.hid hS1
          have hn := Lib.hid hn
          obtain ⟨vn, vs, us, us2, BF, GS, BS, hD, -⟩ := hS1
          clear hK1 hr
          go_wp2_with (fail)
          refine hn.out.mono ?_
          rintro e w2 ⟨rfl, m, hw2⟩
          have hu2 : Up w1 w2 := by rw [hw2]; exact (Up.refl w1).drewN m
          clear hw2
          have hcD := (hD.up hu2).cell
          unfold dcs at hcD
          have hlD := (hD.up hu2).lt
          have c3 := hu2.cell c3
          have hq := hu2.lt hq
          have HU2 := Lib.hid hu2
          clear hD hn hu2
          go_wp2_with (fail)
          go_quiet ((go_at_call 78; with_reducible exact quietU (hu.out _)))
          go_wp2
          go_ret
          exact ⟨rfl, HK1.out.up (HU2.out.drewN _), HS1.out.up (HU2.out.drewN _)⟩
        · have d0 : decide (o.i ≥ 0) = false := decide_eq_false hi0
          generalize (ndOf g hv).2.length = ln at *
          have hu := Lib.hid (fun (w : World) => unless_any false 7 w)
          go_enter Try.func57, Try.ntmps57
          go_wp2_with (fail)
          refine hf.out.mono ?_
          rintro e w1 ⟨rfl, hK1, hS1⟩
          obtain ⟨r, -, hr, hn⟩ := HNODE.out w1 hS1
          obtain ⟨q, A, c, rfl, c3, hq⟩ := hr hin
          have HK1 := Lib.hid hK1
          have HS1 := Lib.hid hS1
          have hn := Lib.hid hn
          obtain ⟨vn, vs, us, us2, BF, GS, BS, hD, -⟩ := hS1
          clear hK1 hr
          go_wp2_with (fail)
          refine hn.out.mono ?_
          rintro e w2 ⟨rfl, m, hw2⟩
          have hu2 : Up w1 w2 := by rw [hw2]; exact (Up.refl w1).drewN m
          clear hw2
          have hcD := (hD.up hu2).cell
          unfold dcs at hcD
          have hlD := (hD.up hu2).lt
          have c3 := hu2.cell c3
          have hq := hu2.lt hq
          have HU2 := Lib.hid hu2
          clear hD hn hu2
          go_wp2_with (fail)
          go_quiet ((go_at_call 78; with_reducible exact quietU (hu.out _)))
          go_wp2
          go_ret
          exact ⟨rfl, HK1.out.up (HU2.out.drewN _), HS1.out.up (HU2.out.drewN _)⟩
    · rw [if_neg hin]
      go_enter Try.func57, Try.ntmps57
      go_wp2_with (fail)
      refine hf.out.mono ?_
      rintro e w1 ⟨rfl, hK1, hS1⟩
      obtain ⟨r, hr, -, hn⟩ := HNODE.out w1 hS1
      obtain rfl := hr hin
      have HK1 := Lib.hid hK1
      have HS1 := Lib.hid hS1
      have hn := Lib.hid hn
      clear hK1 hS1 hr
      go_wp2_with (fail)
      refine hn.out.mono ?_
      rintro e w2 ⟨rfl, m, rfl⟩
      go_wp2
      go_ret
      exact ⟨rfl, HK1.out.up ((Up.refl w1).drewN m), HS1.out.up ((Up.refl w1).drewN m)⟩
  · rw [if_neg (by rw [h0]; decide)]
    rw [h0] at hf
    have hin : ¬ inN g 0 := fun q => by have := q.1; omega
    go_enter Try.func57, Try.ntmps57
    go_wp2_with (fail)
    refine hf.out.mono ?_
    rintro e w1 ⟨rfl, hK1, hS1⟩
    obtain ⟨r, hr, -, hn⟩ := HNODE.out w1 hS1
    obtain rfl := hr hin
    have HK1 := Lib.hid hK1
    have HS1 := Lib.hid hS1
    have hn := Lib.hid hn
    clear hK1 hS1 hr
    go_wp2_with (fail)
    refine hn.out.mono ?_
    rintro e w2 ⟨rfl, m, rfl⟩
    go_wp2
    go_ret
    exact ⟨rfl, HK1.out.up ((Up.refl w1).drewN m), HS1.out.up ((Up.refl w1).drewN m)⟩
end Go.Proofs.Ytlocllcijncllaa
