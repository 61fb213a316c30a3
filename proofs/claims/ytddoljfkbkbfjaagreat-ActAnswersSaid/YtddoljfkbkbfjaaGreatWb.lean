/- Rows of structs, threads and heaps that are read alike are the same to the document: contracts, the 'yes' alone. Heaps that are read alike are the same to the document (dovecoteref17.Same): contract, the 'yes' alone. -/
import Derived.Test.YtddoljfkbkbfjaaGreatTx
import Derived.Test.YtddoljfkbkbfjaaGreatUb
import Derived.Test.YtddoljfkbkbfjaaGreatGf
import Derived.BigQuiet
namespace Go.Proofs.YtddoljfkbkbfjaaGreat.T
open G
open Go.Joins Go.ChangeShapes Go.WideShapes Go.ChangeAt Go.RowKit Go.Deep Go.Shelf Go.Maps
set_option linter.unusedVariables false
set_option linter.unusedSimpArgs false

theorem ne_opx (a b c d e f g h : Int) (w : World) : (binOp .neq 62 (.agg #[.int .i64 a, .int .i64 b, .int .i64 c, .int .i64 d, .int .u64 e, .int .i64 f, .int .i64 g, .int .u64 h]) (.agg #[.int .i64 a, .int .i64 b, .int .i64 c, .int .i64 d, .int .u64 e, .int .i64 f, .int .i64 g, .int .u64 h])).run Tryz.prog w = .ok (.bool false) w := by
  rw [run_neq_struct, run_equalIn_agg _ _ _ _ _ (by rw [fieldsOf_of Tryz.underlying62]; exact Tryz.underlying62) (by kernel_rfl), fieldsOf_of Tryz.underlying62]
  simp [Op.eqFields, go_sem]
theorem ne_ans (a b : Int) (c : Bool) (w : World) : (binOp .neq 56 (.agg #[.int .i64 a, .int .u64 b, .bool c]) (.agg #[.int .i64 a, .int .u64 b, .bool c])).run Tryz.prog w = .ok (.bool false) w := by
  rw [run_neq_struct, run_equalIn_agg _ _ _ _ _ (by rw [fieldsOf_of Tryz.underlying56]; exact Tryz.underlying56) (by kernel_rfl), fieldsOf_of Tryz.underlying56]
  simp [Op.eqFields, go_sem]
theorem ne_entx (a b : Int) (w : World) : (binOp .neq 66 (.agg #[.int .u64 a, .int .i64 b]) (.agg #[.int .u64 a, .int .i64 b])).run Tryz.prog w = .ok (.bool false) w := by
  rw [run_neq_struct, run_equalIn_agg _ _ _ _ _ (by rw [fieldsOf_of Tryz.underlying66]; exact Tryz.underlying66) (by kernel_rfl), fieldsOf_of Tryz.underlying66]
  simp [Op.eqFields, go_sem]
theorem eq_bufx (a b : Int) (w : World) : (binOp .eql 39 (.agg #[.int .i64 a, .int .i64 b]) (.agg #[.int .i64 a, .int .i64 b])).run Tryz.prog w = .ok (.bool true) w := by
  rw [run_eql_struct, run_equalIn_agg _ _ _ _ _ (by rw [fieldsOf_of Tryz.underlying39]; exact Tryz.underlying39) (by kernel_rfl), fieldsOf_of Tryz.underlying39]
  simp [Op.eqFields, go_sem]
def QRel (w : World) (n : Nat) (i : Value) (wr : World) : Prop := ∃ x : Nat, x ≤ n ∧ i = .int .i64 x ∧ ∃ m, wr = w.drewN m
set_option maxRecDepth 100000 in
set_option maxHeartbeats 2000000 in
theorem rops_yes (u v : Value) (xs : List Op) (w : World) (hx : Rc opc w u xs) (hy : Rc opc w v xs) :
    Calls Tryz.prog 24 #[u, v] w fun e w' => e = .returned (.bool true) ∧ ∃ m, w' = w.drewN m := by
  have hm := hx.max
  obtain ⟨A, c, rfl⟩ := hx.slice
  obtain ⟨B, d, rfl⟩ := hy.slice
  unfold maxLen at hm
  have HX := Lib.hid hx
  have HY := Lib.hid hy
  have hn63 : xs.length ≤ 9223372036854775807 := by omega
  generalize hn : xs.length = n at *
  have HN := Lib.hid hn
  clear hx hy hn hm
  go_enter Tryz.func24, Tryz.ntmps24
  go_wp2
  go_loopw [5] (fun i wr => QRel w n i wr) (fun i _ => n - (intOf i).toNat)
  case atStart => exact ⟨0, Nat.zero_le _, rfl, 0, rfl⟩
  case round =>
    obtain ⟨x, hx, rfl, m, rfl⟩ := hrel
    by_cases hlt : x < n
    · obtain ⟨y, hy⟩ : ∃ y, xs[x]? = some y := ⟨_, List.getElem?_eq_getElem (by rw [HN.out]; exact hlt)⟩
      obtain ⟨p, rfl, hp, p0, p1⟩ := rc_elem (k := 8) HX.out (fun _ => rfl) (by decide) hy
      obtain ⟨q, rfl, hq, q0, q1⟩ := rc_elem (k := 8) HY.out (fun _ => rfl) (by decide) hy
      have hE := ne_opx y.kd y.h y.i y.k y.v y.t y.l y.m
      have a0 : w.cell? (p.add (x * 8)) = some (.int .i64 y.kd) := p0
      have b0 : w.cell? (q.add (x * 8)) = some (.int .i64 y.kd) := q0
      have a1 : w.cell? ⟨(p.add (x * 8)).block, (p.add (x * 8)).off + 1, none⟩ = some (.int .i64 y.h) := p1 0 _ rfl
      have b1 : w.cell? ⟨(q.add (x * 8)).block, (q.add (x * 8)).off + 1, none⟩ = some (.int .i64 y.h) := q1 0 _ rfl
      have a2 : w.cell? ⟨(p.add (x * 8)).block, (p.add (x * 8)).off + 2, none⟩ = some (.int .i64 y.i) := p1 1 _ rfl
      have b2 : w.cell? ⟨(q.add (x * 8)).block, (q.add (x * 8)).off + 2, none⟩ = some (.int .i64 y.i) := q1 1 _ rfl
      have a3 : w.cell? ⟨(p.add (x * 8)).block, (p.add (x * 8)).off + 3, none⟩ = some (.int .i64 y.k) := p1 2 _ rfl
      have b3 : w.cell? ⟨(q.add (x * 8)).block, (q.add (x * 8)).off + 3, none⟩ = some (.int .i64 y.k) := q1 2 _ rfl
      have a4 : w.cell? ⟨(p.add (x * 8)).block, (p.add (x * 8)).off + 4, none⟩ = some (.int .u64 y.v) := p1 3 _ rfl
      have b4 : w.cell? ⟨(q.add (x * 8)).block, (q.add (x * 8)).off + 4, none⟩ = some (.int .u64 y.v) := q1 3 _ rfl
      have a5 : w.cell? ⟨(p.add (x * 8)).block, (p.add (x * 8)).off + 5, none⟩ = some (.int .i64 y.t) := p1 4 _ rfl
      have b5 : w.cell? ⟨(q.add (x * 8)).block, (q.add (x * 8)).off + 5, none⟩ = some (.int .i64 y.t) := q1 4 _ rfl
      have a6 : w.cell? ⟨(p.add (x * 8)).block, (p.add (x * 8)).off + 6, none⟩ = some (.int .i64 y.l) := p1 5 _ rfl
      have b6 : w.cell? ⟨(q.add (x * 8)).block, (q.add (x * 8)).off + 6, none⟩ = some (.int .i64 y.l) := q1 5 _ rfl
      have a7 : w.cell? ⟨(p.add (x * 8)).block, (p.add (x * 8)).off + 7, none⟩ = some (.int .u64 y.m) := p1 6 _ rfl
      have b7 : w.cell? ⟨(q.add (x * 8)).block, (q.add (x * 8)).off + 7, none⟩ = some (.int .u64 y.m) := q1 6 _ rfl
      clear p0 p1 q0 q1 hy
      go_wp2
      go_quiet (fail)
      go_wp2
      refine ⟨⟨x + 1, by omega, by go_num, m + nq, by first | rfl | rw [World.drewN_drewN]⟩, by simp [intOf]; omega⟩
    · obtain rfl : n = x := by omega
      go_wp2
      go_ret
      exact ⟨rfl, m, rfl⟩
set_option maxRecDepth 100000 in
set_option maxHeartbeats 2000000 in
theorem ranss_yes (u v : Value) (xs : List An) (w : World) (hx : Rc anc w u xs) (hy : Rc anc w v xs) :
    Calls Tryz.prog 23 #[u, v] w fun e w' => e = .returned (.bool true) ∧ ∃ m, w' = w.drewN m := by
  have hm := hx.max
  obtain ⟨A, c, rfl⟩ := hx.slice
  obtain ⟨B, d, rfl⟩ := hy.slice
  unfold maxLen at hm
  have HX := Lib.hid hx
  have HY := Lib.hid hy
  have hn63 : xs.length ≤ 9223372036854775807 := by omega
  generalize hn : xs.length = n at *
  have HN := Lib.hid hn
  clear hx hy hn hm
  go_enter Tryz.func23, Tryz.ntmps23
  go_wp2
  go_loopw [5] (fun i wr => QRel w n i wr) (fun i _ => n - (intOf i).toNat)
  case atStart => exact ⟨0, Nat.zero_le _, rfl, 0, rfl⟩
  case round =>
    obtain ⟨x, hx, rfl, m, rfl⟩ := hrel
    by_cases hlt : x < n
    · obtain ⟨y, hy⟩ : ∃ y, xs[x]? = some y := ⟨_, List.getElem?_eq_getElem (by rw [HN.out]; exact hlt)⟩
      obtain ⟨p, rfl, hp, p0, p1⟩ := rc_elem (k := 3) HX.out (fun _ => rfl) (by decide) hy
      obtain ⟨q, rfl, hq, q0, q1⟩ := rc_elem (k := 3) HY.out (fun _ => rfl) (by decide) hy
      have hE := ne_ans y.1 y.2.1 y.2.2
      have a0 : w.cell? (p.add (x * 3)) = some (.int .i64 y.1) := p0
      have b0 : w.cell? (q.add (x * 3)) = some (.int .i64 y.1) := q0
      have a1 : w.cell? ⟨(p.add (x * 3)).block, (p.add (x * 3)).off + 1, none⟩ = some (.int .u64 y.2.1) := p1 0 _ rfl
      have b1 : w.cell? ⟨(q.add (x * 3)).block, (q.add (x * 3)).off + 1, none⟩ = some (.int .u64 y.2.1) := q1 0 _ rfl
      have a2 : w.cell? ⟨(p.add (x * 3)).block, (p.add (x * 3)).off + 2, none⟩ = some (.bool y.2.2) := p1 1 _ rfl
      have b2 : w.cell? ⟨(q.add (x * 3)).block, (q.add (x * 3)).off + 2, none⟩ = some (.bool y.2.2) := q1 1 _ rfl
      clear p0 p1 q0 q1 hy
      go_wp2
      go_quiet (fail)
      go_wp2
      refine ⟨⟨x + 1, by omega, by go_num, m + nq, by first | rfl | rw [World.drewN_drewN]⟩, by simp [intOf]; omega⟩
    · obtain rfl : n = x := by omega
      go_wp2
      go_ret
      exact ⟨rfl, m, rfl⟩
set_option maxRecDepth 100000 in
set_option maxHeartbeats 2000000 in
theorem rents_yes (u v : Value) (xs : List Ent) (w : World) (hx : Rc enc w u xs) (hy : Rc enc w v xs) :
    Calls Tryz.prog 55 #[u, v] w fun e w' => e = .returned (.bool true) ∧ ∃ m, w' = w.drewN m := by
  have hm := hx.max
  obtain ⟨A, c, rfl⟩ := hx.slice
  obtain ⟨B, d, rfl⟩ := hy.slice
  unfold maxLen at hm
  have HX := Lib.hid hx
  have HY := Lib.hid hy
  have hn63 : xs.length ≤ 9223372036854775807 := by omega
  generalize hn : xs.length = n at *
  have HN := Lib.hid hn
  clear hx hy hn hm
  go_enter Tryz.func55, Tryz.ntmps55
  go_wp2
  go_loopw [5] (fun i wr => QRel w n i wr) (fun i _ => n - (intOf i).toNat)
  case atStart => exact ⟨0, Nat.zero_le _, rfl, 0, rfl⟩
  case round =>
    obtain ⟨x, hx, rfl, m, rfl⟩ := hrel
    by_cases hlt : x < n
    · obtain ⟨y, hy⟩ : ∃ y, xs[x]? = some y := ⟨_, List.getElem?_eq_getElem (by rw [HN.out]; exact hlt)⟩
      obtain ⟨p, rfl, hp, p0, p1⟩ := rc_elem (k := 2) HX.out (fun _ => rfl) (by decide) hy
      obtain ⟨q, rfl, hq, q0, q1⟩ := rc_elem (k := 2) HY.out (fun _ => rfl) (by decide) hy
      have hE := ne_entx y.1 y.2
      have a0 : w.cell? (p.add (x * 2)) = some (.int .u64 y.1) := p0
      have b0 : w.cell? (q.add (x * 2)) = some (.int .u64 y.1) := q0
      have a1 : w.cell? ⟨(p.add (x * 2)).block, (p.add (x * 2)).off + 1, none⟩ = some (.int .i64 y.2) := p1 0 _ rfl
      have b1 : w.cell? ⟨(q.add (x * 2)).block, (q.add (x * 2)).off + 1, none⟩ = some (.int .i64 y.2) := q1 0 _ rfl
      clear p0 p1 q0 q1 hy
      go_wp2
      go_quiet (fail)
      go_wp2
      refine ⟨⟨x + 1, by omega, by go_num, m + nq, by first | rfl | rw [World.drewN_drewN]⟩, by simp [intOf]; omega⟩
    · obtain rfl : n = x := by omega
      go_wp2
      go_ret
      exact ⟨rfl, m, rfl⟩
set_option maxRecDepth 100000 in
set_option maxHeartbeats 2000000 in
theorem rwords_yes (u v : Value) (xs : List Int) (w : World) (hx : Rc wdc w u xs) (hy : Rc wdc w v xs) :
    Calls Tryz.prog 51 #[u, v] w fun e w' => e = .returned (.bool true) ∧ ∃ m, w' = w.drewN m := by
  have hm := hx.max
  obtain ⟨A, c, rfl⟩ := hx.slice
  obtain ⟨B, d, rfl⟩ := hy.slice
  unfold maxLen at hm
  have HX := Lib.hid hx
  have HY := Lib.hid hy
  have hn63 : xs.length ≤ 9223372036854775807 := by omega
  generalize hn : xs.length = n at *
  have HN := Lib.hid hn
  clear hx hy hn hm
  go_enter Tryz.func51, Tryz.ntmps51
  go_wp2
  go_loopw [5] (fun i wr => QRel w n i wr) (fun i _ => n - (intOf i).toNat)
  case atStart => exact ⟨0, Nat.zero_le _, rfl, 0, rfl⟩
  case round =>
    obtain ⟨x, hx, rfl, m, rfl⟩ := hrel
    by_cases hlt : x < n
    · obtain ⟨y, hy⟩ : ∃ y, xs[x]? = some y := ⟨_, List.getElem?_eq_getElem (by rw [HN.out]; exact hlt)⟩
      obtain ⟨p, rfl, hp, p0, p1⟩ := rc_elem (k := 1) HX.out (fun _ => rfl) (by decide) hy
      obtain ⟨q, rfl, hq, q0, q1⟩ := rc_elem (k := 1) HY.out (fun _ => rfl) (by decide) hy
      have a0 : w.cell? (p.add x) = some (.int .u64 y) := by rw [Nat.mul_one] at p0; exact p0
      have b0 : w.cell? (q.add x) = some (.int .u64 y) := by rw [Nat.mul_one] at q0; exact q0
      clear p0 p1 q0 q1 hy
      go_wp2
      go_quiet (fail)
      go_wp2
      refine ⟨⟨x + 1, by omega, by go_num, m + nq, by first | rfl | rw [World.drewN_drewN]⟩, by simp [intOf]; omega⟩
    · obtain rfl : n = x := by omega
      go_wp2
      go_ret
      exact ⟨rfl, m, rfl⟩
set_option maxRecDepth 100000 in
set_option maxHeartbeats 2000000 in
theorem rints_yes (u v : Value) (xs : List Int) (w : World) (hx : Rc inc w u xs) (hy : Rc inc w v xs) :
    Calls Tryz.prog 30 #[u, v] w fun e w' => e = .returned (.bool true) ∧ ∃ m, w' = w.drewN m := by
  have hm := hx.max
  obtain ⟨A, c, rfl⟩ := hx.slice
  obtain ⟨B, d, rfl⟩ := hy.slice
  unfold maxLen at hm
  have HX := Lib.hid hx
  have HY := Lib.hid hy
  have hn63 : xs.length ≤ 9223372036854775807 := by omega
  generalize hn : xs.length = n at *
  have HN := Lib.hid hn
  clear hx hy hn hm
  go_enter Tryz.func30, Tryz.ntmps30
  go_wp2
  go_loopw [5] (fun i wr => QRel w n i wr) (fun i _ => n - (intOf i).toNat)
  case atStart => exact ⟨0, Nat.zero_le _, rfl, 0, rfl⟩
  case round =>
    obtain ⟨x, hx, rfl, m, rfl⟩ := hrel
    by_cases hlt : x < n
    · obtain ⟨y, hy⟩ : ∃ y, xs[x]? = some y := ⟨_, List.getElem?_eq_getElem (by rw [HN.out]; exact hlt)⟩
      obtain ⟨p, rfl, hp, p0, p1⟩ := rc_elem (k := 1) HX.out (fun _ => rfl) (by decide) hy
      obtain ⟨q, rfl, hq, q0, q1⟩ := rc_elem (k := 1) HY.out (fun _ => rfl) (by decide) hy
      have a0 : w.cell? (p.add x) = some (.int .i64 y) := by rw [Nat.mul_one] at p0; exact p0
      have b0 : w.cell? (q.add x) = some (.int .i64 y) := by rw [Nat.mul_one] at q0; exact q0
      clear p0 p1 q0 q1 hy
      go_wp2
      go_quiet (fail)
      go_wp2
      refine ⟨⟨x + 1, by omega, by go_num, m + nq, by first | rfl | rw [World.drewN_drewN]⟩, by simp [intOf]; omega⟩
    · obtain rfl : n = x := by omega
      go_wp2
      go_ret
      exact ⟨rfl, m, rfl⟩
def thv (u : Tv) : Value := .agg #[u.st, .int .i64 u.ba, .int .i64 u.be, u.lg, u.lf, u.pd, .bool u.wt, u.dn]
/-- A call that only draws. -/
theorem quiet_up {P : Program} {f : FuncId} {args : Array Value} {w : World} {v : Value} (h : Calls P f args w fun e w' => e = .returned v ∧ ∃ m, w' = w.drewN m) : Calls P f args w fun e w' => e = .returned v ∧ Up w w' :=
  h.mono fun e w' ⟨h1, m, h2⟩ => ⟨h1, by rw [h2]; exact (Up.refl w).drewN m⟩
set_option maxRecDepth 100000 in
set_option maxHeartbeats 4000000 in
theorem rthread_yes (u v : Tv) (t : Th) (w : World) (hu : ThR w u t) (hv : ThR w v t) :
    Calls Tryz.prog 31 #[thv u, thv v] w fun e w' => e = .returned (.bool true) ∧ Up w w' := by
  have H1 := Lib.hid (fun W (k : Up w W) => quiet_up (rwords_yes u.st v.st t.st W (hu.st.up k) (hv.st.up k)))
  have H2 := Lib.hid (fun W (k : Up w W) => quiet_up (rents_yes u.lg v.lg t.lg W (hu.lg.up k) (hv.lg.up k)))
  have H3 := Lib.hid (fun W (k : Up w W) => quiet_up (rents_yes u.pd v.pd t.pd W (hu.pd.up k) (hv.pd.up k)))
  have H4 := Lib.hid (fun W (k : Up w W) => quiet_up (rops_yes u.lf v.lf t.lf W (hu.lf.up k) (hv.lf.up k)))
  have H5 := Lib.hid (fun W (k : Up w W) => quiet_up (ranss_yes u.dn v.dn t.dn W (hu.dn.up k) (hv.dn.up k)))
  obtain ⟨A1, c1, e1⟩ := hu.st.slice
  obtain ⟨A2, c2, e2⟩ := hu.lg.slice
  obtain ⟨A3, c3, e3⟩ := hu.lf.slice
  obtain ⟨A4, c4, e4⟩ := hu.pd.slice
  obtain ⟨A5, c5, e5⟩ := hu.dn.slice
  obtain ⟨B1, d1, f1⟩ := hv.st.slice
  obtain ⟨B2, d2, f2⟩ := hv.lg.slice
  obtain ⟨B3, d3, f3⟩ := hv.lf.slice
  obtain ⟨B4, d4, f4⟩ := hv.pd.slice
  obtain ⟨B5, d5, f5⟩ := hv.dn.slice
  obtain ⟨ust, uba, ube, ulg, ulf, upd, uwt, udn⟩ := u
  obtain ⟨vst, vba, vbe, vlg, vlf, vpd, vwt, vdn⟩ := v
  have g1 : uba = vba := hu.ba.trans hv.ba.symm
  have g2 : ube = vbe := hu.be.trans hv.be.symm
  have g3 : uwt = vwt := hu.wt.trans hv.wt.symm
  simp only at e1 e2 e3 e4 e5 f1 f2 f3 f4 f5
  subst e1 e2 e3 e4 e5 f1 f2 f3 f4 f5 g1 g2 g3
  have hE := eq_bufx uba ube
  clear hu hv
  generalize t.st.length = n1 at *
  generalize t.lg.length = n2 at *
  generalize t.lf.length = n3 at *
  generalize t.pd.length = n4 at *
  generalize t.dn.length = n5 at *
  unfold thv
  go_enter Tryz.func31, Tryz.ntmps31
  go_wp2_with (fail)
  refine calls_at (fun V1 hV => ?_)
  have kv : Up w V1 := by rw [hV]; (repeat (first | with_reducible exact Up.refl _ | with_reducible refine Up.alloc ?_ _ | with_reducible refine Up.drew ?_ | refine Up.setCell ?_ (by simp <;> omega) _))
  have bAv : Blk V1 (w.heap.size) 44 #[.slice A1 n1 c1, .int .i64 uba, .int .i64 ube, .slice A2 n2 c2, .slice A3 n3 c3, .slice A4 n4 c4, .bool uwt, .slice A5 n5 c5] := by rw [hV]; (repeat (first | with_reducible exact Blk.new' _ (by simp) _ _ | with_reducible refine Blk.alloc ?_ _ | with_reducible refine Blk.drew ?_ | refine Blk.far ?_ (by simp <;> omega) _))
  have bBv : Blk V1 (w.heap.size + 1) 44 #[.slice B1 n1 d1, .int .i64 uba, .int .i64 ube, .slice B2 n2 d2, .slice B3 n3 d3, .slice B4 n4 d4, .bool uwt, .slice B5 n5 d5] := by rw [hV]; (repeat (first | with_reducible exact Blk.new' _ (by simp) _ _ | with_reducible refine Blk.alloc ?_ _ | with_reducible refine Blk.drew ?_ | refine Blk.far ?_ (by simp <;> omega) _))
  have Uv : Up w V1 := kv
  clear hV kv 
  refine (H1.out V1 Uv).mono ?_
  rintro e w1 ⟨rfl, k1⟩
  have bA1 := bAv.up k1
  have bB1 := bBv.up k1
  have U1 := Uv.trans k1
  clear k1 Uv bAv bBv 
  have bA1c := bA1.cell
  have bA1f := bA1.frozen
  have bA1l := bA1.lt
  have bB1c := bB1.cell
  have bB1f := bB1.frozen
  have bB1l := bB1.lt
  go_wp2_with (fail)
  refine calls_at (fun V2 hV => ?_)
  have kv : Up w1 V2 := by rw [hV]; (repeat (first | with_reducible exact Up.refl _ | with_reducible refine Up.alloc ?_ _ | with_reducible refine Up.drew ?_ | refine Up.setCell ?_ (by simp <;> omega) _))
  have bAv := bA1.up kv
  have bBv := bB1.up kv
  have Uv : Up w V2 := U1.trans kv
  clear hV kv bA1 bA1c bA1f bA1l bB1 bB1c bB1f bB1l U1
  refine (H2.out V2 Uv).mono ?_
  rintro e w2 ⟨rfl, k2⟩
  have bA2 := bAv.up k2
  have bB2 := bBv.up k2
  have U2 := Uv.trans k2
  clear k2 Uv bAv bBv 
  have bA2c := bA2.cell
  have bA2f := bA2.frozen
  have bA2l := bA2.lt
  have bB2c := bB2.cell
  have bB2f := bB2.frozen
  have bB2l := bB2.lt
  go_wp2_with (fail)
  refine calls_at (fun V3 hV => ?_)
  have kv : Up w2 V3 := by rw [hV]; (repeat (first | with_reducible exact Up.refl _ | with_reducible refine Up.alloc ?_ _ | with_reducible refine Up.drew ?_ | refine Up.setCell ?_ (by simp <;> omega) _))
  have bAv := bA2.up kv
  have bBv := bB2.up kv
  have Uv : Up w V3 := U2.trans kv
  clear hV kv bA2 bA2c bA2f bA2l bB2 bB2c bB2f bB2l U2
  refine (H3.out V3 Uv).mono ?_
  rintro e w3 ⟨rfl, k3⟩
  have bA3 := bAv.up k3
  have bB3 := bBv.up k3
  have U3 := Uv.trans k3
  clear k3 Uv bAv bBv 
  have bA3c := bA3.cell
  have bA3f := bA3.frozen
  have bA3l := bA3.lt
  have bB3c := bB3.cell
  have bB3f := bB3.frozen
  have bB3l := bB3.lt
  go_wp2_with (fail)
  refine calls_at (fun V4 hV => ?_)
  have kv : Up w3 V4 := by rw [hV]; (repeat (first | with_reducible exact Up.refl _ | with_reducible refine Up.alloc ?_ _ | with_reducible refine Up.drew ?_ | refine Up.setCell ?_ (by simp <;> omega) _))
  have bAv := bA3.up kv
  have bBv := bB3.up kv
  have Uv : Up w V4 := U3.trans kv
  clear hV kv bA3 bA3c bA3f bA3l bB3 bB3c bB3f bB3l U3
  refine (H4.out V4 Uv).mono ?_
  rintro e w4 ⟨rfl, k4⟩
  have bA4 := bAv.up k4
  have bB4 := bBv.up k4
  have U4 := Uv.trans k4
  clear k4 Uv bAv bBv 
  have bA4c := bA4.cell
  have bA4f := bA4.frozen
  have bA4l := bA4.lt
  have bB4c := bB4.cell
  have bB4f := bB4.frozen
  have bB4l := bB4.lt
  go_wp2_with (fail)
  refine calls_at (fun V5 hV => ?_)
  have kv : Up w4 V5 := by rw [hV]; (repeat (first | with_reducible exact Up.refl _ | with_reducible refine Up.alloc ?_ _ | with_reducible refine Up.drew ?_ | refine Up.setCell ?_ (by simp <;> omega) _))
  have bAv := bA4.up kv
  have bBv := bB4.up kv
  have Uv : Up w V5 := U4.trans kv
  clear hV kv bA4 bA4c bA4f bA4l bB4 bB4c bB4f bB4l U4
  refine (H5.out V5 Uv).mono ?_
  rintro e w5 ⟨rfl, k5⟩
  have bA5 := bAv.up k5
  have bB5 := bBv.up k5
  have U5 := Uv.trans k5
  clear k5 Uv bAv bBv 
  have bA5c := bA5.cell
  have bA5f := bA5.frozen
  have bA5l := bA5.lt
  have bB5c := bB5.cell
  have bB5f := bB5.frozen
  have bB5l := bB5.lt
  go_wp2
  go_ret
  refine ⟨rfl, ?_⟩
  (repeat (first | with_reducible exact U5 | with_reducible refine Up.alloc ?_ _ | with_reducible refine Up.drew ?_ | refine Up.setCell ?_ (by simp <;> omega) _))
end Go.Proofs.YtddoljfkbkbfjaaGreat.T

namespace Go.Proofs.YtddoljfkbkbfjaaGreat.T
open G
open Go.Joins Go.ChangeShapes Go.WideShapes Go.ChangeAt Go.RowKit Go.Deep Go.Shelf Go.Maps
set_option linter.unusedVariables false
set_option linter.unusedSimpArgs false

def TRel (w : World) (n : Nat) (i : Value) (wr : World) : Prop := ∃ x : Nat, x ≤ n ∧ i = .int .i64 x ∧ Up w wr
set_option maxRecDepth 100000 in
set_option maxHeartbeats 8000000 in
theorem rheap_yes (v v' : Value) (h : Hp) (w : World) (hv : HpR w v h) (hv' : HpR w v' h) :
    Calls Tryz.prog 14 #[v, v'] w fun e w' => e = .returned (.bool true) ∧ Up w w' := by
  obtain ⟨P, Q, c, d, vt, vo, us, rfl, h1, h2, h3, h4⟩ := hv
  obtain ⟨P', Q', c', d', vt', vo', us', rfl, h1', h2', h3', h4'⟩ := hv'
  have H1 := Lib.hid (fun W (k : Up w W) => rsame_self h.m P Q P' Q' c d c' d' W (h1.up k) (h1'.up k))
  have H2 := Lib.hid (fun W (k : Up w W) => quiet_up (rints_yes vo vo' h.od W (h4.up k) (h4'.up k)))
  have l1 := h3.1
  have l2 := h3'.1
  have HX := Lib.hid (fun W (k : Up w W) => h2.up k)
  have HY := Lib.hid (fun W (k : Up w W) => h2'.up k)
  have HTH := Lib.hid (fun W (k : Up w W) x (hx : x < h.th.length) => (show ∃ u u' t, us[x]? = some u ∧ us'[x]? = some u' ∧ ThR W u t ∧ ThR W u' t from by
    obtain ⟨u, e1, r1⟩ := h3.at_ (List.getElem?_eq_getElem hx)
    obtain ⟨u', e2, r2⟩ := h3'.at_ (List.getElem?_eq_getElem hx)
    exact ⟨u, u', _, e1, e2, r1.up k, r2.up k⟩))
  obtain ⟨A, a, rfl⟩ := h2.slice
  obtain ⟨A', a', rfl⟩ := h2'.slice
  obtain ⟨B, b, rfl⟩ := h4.slice
  obtain ⟨B', b', rfl⟩ := h4'.slice
  have hm := h2.max
  have hE1 := eq_self h.fs h.fa h.fl
  have hE2 := eq_self h.ts h.ta h.tl
  rw [l1] at HX hm ⊢
  rw [l2] at HY ⊢
  have hn63 : h.th.length ≤ 9223372036854775807 := by unfold maxLen at hm; omega
  clear h1 h2 h3 h4 h1' h2' h3' h4' hm l1 l2
  generalize h.th.length = n at *
  generalize h.od.length = m at *
  unfold hpc
  go_enter Tryz.func14, Tryz.ntmps14
  go_wp2_with (fail)
  refine calls_at (fun V1 hV => ?_)
  have kv : Up w V1 := by rw [hV]; (repeat (first | with_reducible exact Up.refl _ | with_reducible refine Up.alloc ?_ _ | with_reducible refine Up.drew ?_ | refine Up.setCell ?_ (by simp <;> omega) _))
  have bAv : Blk V1 (w.heap.size) 32 #[.int .i64 h.m.n, .slice (some P) h.m.n c, .slice (some Q) h.m.n d, .int .i64 h.fs, .int .i64 h.fa, .int .i64 h.fl, .int .i64 h.ts, .int .i64 h.ta, .int .i64 h.tl, .int .i64 h.sz, .int .i64 h.lg, .slice A n a, .int .i64 h.ph, .int .i64 h.sc, .int .i64 h.fp, .slice B m b, .int .i64 h.bk] := by rw [hV]; (repeat (first | with_reducible exact Blk.new' _ (by simp) _ _ | with_reducible refine Blk.alloc ?_ _ | with_reducible refine Blk.drew ?_ | refine Blk.far ?_ (by simp <;> omega) _))
  have bBv : Blk V1 (w.heap.size + 1) 32 #[.int .i64 h.m.n, .slice (some P') h.m.n c', .slice (some Q') h.m.n d', .int .i64 h.fs, .int .i64 h.fa, .int .i64 h.fl, .int .i64 h.ts, .int .i64 h.ta, .int .i64 h.tl, .int .i64 h.sz, .int .i64 h.lg, .slice A' n a', .int .i64 h.ph, .int .i64 h.sc, .int .i64 h.fp, .slice B' m b', .int .i64 h.bk] := by rw [hV]; (repeat (first | with_reducible exact Blk.new' _ (by simp) _ _ | with_reducible refine Blk.alloc ?_ _ | with_reducible refine Blk.drew ?_ | refine Blk.far ?_ (by simp <;> omega) _))
  have Uv : Up w V1 := kv
  clear hV kv 
  refine (H1.out V1 Uv).mono ?_
  rintro e w1 ⟨rfl, k1⟩
  have bA1 := bAv.up k1
  have bB1 := bBv.up k1
  have U1 := Uv.trans k1
  clear k1 Uv bAv bBv 
  have bA1c := bA1.cell
  have bA1f := bA1.frozen
  have bA1l := bA1.lt
  have bB1c := bB1.cell
  have bB1f := bB1.frozen
  have bB1l := bB1.lt
  go_wp2_with (fail)
  refine calls_at (fun V2 hV => ?_)
  have kv : Up w1 V2 := by rw [hV]; (repeat (first | with_reducible exact Up.refl _ | with_reducible refine Up.alloc ?_ _ | with_reducible refine Up.drew ?_ | refine Up.setCell ?_ (by simp <;> omega) _))
  have bAv := bA1.up kv
  have bBv := bB1.up kv
  have Uv : Up w V2 := U1.trans kv
  clear hV kv bA1 bA1c bA1f bA1l bB1 bB1c bB1f bB1l U1
  refine (H2.out V2 Uv).mono ?_
  rintro e w2 ⟨rfl, k2⟩
  have bA2 := bAv.up k2
  have bB2 := bBv.up k2
  have U2 := Uv.trans k2
  clear k2 Uv bAv bBv 
  have bA2c := bA2.cell
  have bA2f := bA2.frozen
  have bA2l := bA2.lt
  have bB2c := bB2.cell
  have bB2f := bB2.frozen
  have bB2l := bB2.lt
  have HBA := Lib.hid bA2
  have HBB := Lib.hid bB2
  have HU2 := Lib.hid U2
  go_wp2_with (fail)
  clear bA2 bA2c bA2f bA2l bB2 bB2c bB2f bB2l U2
  go_loopw [7] (fun i wr => TRel w2 n i wr) (fun i _ => n - (intOf i).toNat)
  case atStart => exact ⟨0, Nat.zero_le _, rfl, Up.refl _⟩
  case round =>
    obtain ⟨x, hx, rfl, hu⟩ := hrel
    have HUR := Lib.hid hu
    by_cases hlt : x < n
    · obtain ⟨u, u', t, e1, e2, r1, r2⟩ := HTH.out wr (HU2.out.trans hu) x hlt
      have bAr := HBA.out.up hu
      have bBr := HBB.out.up hu
      have bAc := bAr.cell
      have bBc := bBr.cell
      have bAl := bAr.lt
      have bBl := bBr.lt
      go_wp2_with (fail)
      obtain ⟨W1, hW1⟩ : ∃ W : World, W = wr.drew := ⟨_, rfl⟩
      have UW : Up wr W1 := by rw [hW1]; exact (Up.refl _).drew
      obtain ⟨p, rfl, hp, p0, p1⟩ := rc_elem (k := 8) (HX.out W1 ((HU2.out.trans hu).trans UW)) (fun _ => rfl) (by decide) e1
      obtain ⟨q, rfl, hq, q0, q1⟩ := rc_elem (k := 8) (HY.out W1 ((HU2.out.trans hu).trans UW)) (fun _ => rfl) (by decide) e2
      have HTC := Lib.hid (fun W (k : Up W1 W) => rthread_yes u u' t W (r1.up (UW.trans k)) (r2.up (UW.trans k)))
      obtain ⟨A1, c1, f1⟩ := r1.st.slice
      obtain ⟨A2, c2, f2⟩ := r1.lg.slice
      obtain ⟨A3, c3, f3⟩ := r1.lf.slice
      obtain ⟨A4, c4, f4⟩ := r1.pd.slice
      obtain ⟨A5, c5, f5⟩ := r1.dn.slice
      obtain ⟨B1, d1, g1⟩ := r2.st.slice
      obtain ⟨B2, d2, g2⟩ := r2.lg.slice
      obtain ⟨B3, d3, g3⟩ := r2.lf.slice
      obtain ⟨B4, d4, g4⟩ := r2.pd.slice
      obtain ⟨B5, d5, g5⟩ := r2.dn.slice
      obtain ⟨ust, uba, ube, ulg, ulf, upd, uwt, udn⟩ := u
      obtain ⟨vst, vba, vbe, vlg, vlf, vpd, vwt, vdn⟩ := u'
      simp only at f1 f2 f3 f4 f5 g1 g2 g3 g4 g5
      subst f1 f2 f3 f4 f5 g1 g2 g3 g4 g5
      have a0 : W1.cell? (p.add (x * 8)) = some (.slice A1 t.st.length c1) := p0
      have a1 : W1.cell? ⟨(p.add (x * 8)).block, (p.add (x * 8)).off + 1, none⟩ = some (.int .i64 uba) := p1 0 _ rfl
      have a2 : W1.cell? ⟨(p.add (x * 8)).block, (p.add (x * 8)).off + 2, none⟩ = some (.int .i64 ube) := p1 1 _ rfl
      have a3 : W1.cell? ⟨(p.add (x * 8)).block, (p.add (x * 8)).off + 3, none⟩ = some (.slice A2 t.lg.length c2) := p1 2 _ rfl
      have a4 : W1.cell? ⟨(p.add (x * 8)).block, (p.add (x * 8)).off + 4, none⟩ = some (.slice A3 t.lf.length c3) := p1 3 _ rfl
      have a5 : W1.cell? ⟨(p.add (x * 8)).block, (p.add (x * 8)).off + 5, none⟩ = some (.slice A4 t.pd.length c4) := p1 4 _ rfl
      have a6 : W1.cell? ⟨(p.add (x * 8)).block, (p.add (x * 8)).off + 6, none⟩ = some (.bool uwt) := p1 5 _ rfl
      have a7 : W1.cell? ⟨(p.add (x * 8)).block, (p.add (x * 8)).off + 7, none⟩ = some (.slice A5 t.dn.length c5) := p1 6 _ rfl
      have b0 : W1.cell? (q.add (x * 8)) = some (.slice B1 t.st.length d1) := q0
      have b1 : W1.cell? ⟨(q.add (x * 8)).block, (q.add (x * 8)).off + 1, none⟩ = some (.int .i64 vba) := q1 0 _ rfl
      have b2 : W1.cell? ⟨(q.add (x * 8)).block, (q.add (x * 8)).off + 2, none⟩ = some (.int .i64 vbe) := q1 1 _ rfl
      have b3 : W1.cell? ⟨(q.add (x * 8)).block, (q.add (x * 8)).off + 3, none⟩ = some (.slice B2 t.lg.length d2) := q1 2 _ rfl
      have b4 : W1.cell? ⟨(q.add (x * 8)).block, (q.add (x * 8)).off + 4, none⟩ = some (.slice B3 t.lf.length d3) := q1 3 _ rfl
      have b5 : W1.cell? ⟨(q.add (x * 8)).block, (q.add (x * 8)).off + 5, none⟩ = some (.slice B4 t.pd.length d4) := q1 4 _ rfl
      have b6 : W1.cell? ⟨(q.add (x * 8)).block, (q.add (x * 8)).off + 6, none⟩ = some (.bool vwt) := q1 5 _ rfl
      have b7 : W1.cell? ⟨(q.add (x * 8)).block, (q.add (x * 8)).off + 7, none⟩ = some (.slice B5 t.dn.length d5) := q1 6 _ rfl
      have HW1 := Lib.hid hW1
      have HUW := Lib.hid UW
      unfold thv at HTC
      simp only at HTC
      clear p0 p1 q0 q1 e1 e2 r1 r2 hu hW1
      generalize t.st.length = n1 at *
      generalize t.lg.length = n2 at *
      generalize t.lf.length = n3 at *
      generalize t.pd.length = n4 at *
      generalize t.dn.length = n5 at *
      have bAc := (bAr.up UW).cell
      have bBc := (bBr.up UW).cell
      have bAl := (bAr.up UW).lt
      have bBl := (bBr.up UW).lt
      refine region_tail 10 (by kernel_rfl) (by kernel_rfl) W1 HW1.out ?_
      simp only [List.take_succ_cons, List.take_zero, List.drop_succ_cons, List.drop_zero]
      repeat still_step
      refine wpStill_nil ?_
      go_wp2_with (fail)
      refine (HTC.out W1 (Up.refl _)).mono ?_
      rintro e w5 ⟨rfl, k5⟩
      go_wp2_with (fail)
      refine ⟨⟨x + 1, by omega, by go_num, (HUR.out.trans HUW.out).trans k5⟩, by simp [intOf]; omega⟩
    · obtain rfl : n = x := by omega
      have bAr := HBA.out.up hu
      have bBr := HBB.out.up hu
      have bAc := bAr.cell
      have bBc := bBr.cell
      have bAl := bAr.lt
      have bBl := bBr.lt
      go_wp2_with (fail)
      go_ret
      exact ⟨rfl, HU2.out.trans HUR.out⟩
end Go.Proofs.YtddoljfkbkbfjaaGreat.T
