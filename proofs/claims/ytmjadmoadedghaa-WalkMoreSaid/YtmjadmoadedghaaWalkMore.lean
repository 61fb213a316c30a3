/- The statement WalkMore is proved for every input, from contracts of the functions that it calls; no condition is added. -/
import Derived.Test.YtmjadmoadedghaaWk12
import Derived.Deep.AppendLies
import Derived.Deep.RegionHeld3
namespace Go.Proofs.Ytmjadmoadedghaa.LWalkMore
open Go.Joins Go.ChangeShapes Go.WideShapes Go.ChangeAt Go.RowKit Go.Deep
set_option linter.unusedVariables false
set_option linter.unusedSimpArgs false

theorem lo_empty {V : World} {g n₀ : Nat} (h : Blk V g 31 #[]) (hb : n₀ ≤ g) : Lo V n₀ (.slice (some ⟨g, 0, none⟩) 0 0) [] := ⟨rfl, .inr ⟨g, 0, #[], rfl, hb, h, Nat.le_refl _, Nat.zero_le _, rfl, rfl⟩⟩
theorem Lo.nil_sl {w : World} {n₀ : Nat} {v : Value} (h : Lo w n₀ v []) : ∃ A cap, v = .slice A 0 cap := by
  obtain ⟨A, cap, e, _⟩ := h.sl
  exact ⟨A, cap, e⟩
/-- An append of nothing onto nothing. -/
theorem step_nothing {w : World} {ops : Array Oper} {o : Oper} {a : Act} {K : Act → World → Prop} {Q : Exit → Act → World → Prop} {E : Prop} (hgd : o.guard = none) (s x : Operand)
    (ho : o.op = .call { callee := .builtin .append, args := #[s, x], argTypes := #[22, 22] })
    (p : Addr) (A : Option Addr) (c : Nat) (hs : a.eval s = .slice (some p) 0 0) (hx : a.eval x = .slice A 0 c)
    (h : K (a.put o.dst (.slice (some p) 0 0)) w) :
    if Region.wanted o (yielded ops a.tmps) = true then Oper.wp Try.prog o a w K Q else E := by
  obtain ⟨i0, hi, hz0, hz1, hz2⟩ := info_parts info_u64
  have hr : (Builtin.append_ #[22, 22] o.type #[.slice (some p) 0 0, .slice A 0 c]).run Try.prog w = .ok (.slice (some p) 0 0) w := by
    cases A <;> simp [Builtin.append_, run_underlying Try.underlying22, sizeOf, typeInfo, hi, Builtin.lenOf, Builtin.firstCells, loadCells, loadCellsFrom, storeCells]
  have hw : Region.wanted o (yielded ops a.tmps) = true := by simp [Region.wanted, hgd]
  rw [if_pos hw]
  unfold Oper.wp execOp
  simp only [ho, resolve, invoke, builtin, Sem.run_bind, Sem.run_pure, Result.andThen_ok, List.map_toArray, List.map_cons, List.map_nil, hs, hx, hr]
  exact h
/-- An append of words, at a step of a region that draws its order. -/
theorem step_words {w : World} {ops : Array Oper} {o : Oper} {a : Act} {K : Act → World → Prop} {Q : Exit → Act → World → Prop} {E : Prop} (hgd : o.guard = none) (s x : Operand)
    (ho : o.op = .call { callee := .builtin .append, args := #[s, x], argTypes := #[22, 22] })
    (n₀ : Nat) (v : Value) (xs : List Int) (hs : a.eval s = v) (hown : Lo w n₀ v xs)
    (ad : Addr) (c : Nat) (ys : List Int) (hx : a.eval x = .slice (some ad) ys.length c) (hrow : Row w ad ys) (hm : 0 < ys.length) (N : Nat) (hN : xs.length + ys.length = N) (hl : N ≤ 1000000) (hbase : n₀ ≤ w.heap.size)
    (h : ∀ g cap w', Lo w' n₀ (.slice (some ⟨g, 0, none⟩) N cap) (xs ++ ys) → w.grownBy w' v.ownBlock → K (a.put o.dst (.slice (some ⟨g, 0, none⟩) N cap)) w') :
    if Region.wanted o (yielded ops a.tmps) = true then Oper.wp Try.prog o a w K Q else E := by
  subst hN
  obtain ⟨i0, hi, hz0, hz1, hz2⟩ := info_parts info_u64
  refine step_append_lies w hgd s x _ ho n₀ 31 i0 (.int .u64 0) 1 8 Try.underlying22 hi hz0 hz1 hz2 rfl (by decide) v xs.length (wds xs) hs hown ad ys.length c (wds ys) hx (by simp [len_wds]) hrow.src (one_wds ys) hm (by unfold maxLen; omega) (by omega) hbase w.heap.size rfl ?_
  intro g cap w' ho' hg _ _
  refine h g cap w' ?_ hg
  unfold Lo
  rw [List.length_append, show wds (xs ++ ys) = wds xs ++ wds ys from by simp [wds]]
  exact ho'

set_option maxRecDepth 100000 in
set_option maxHeartbeats 4000000 in
theorem walk_no (NM : Int) (AM0 AM1 : Option Addr) (nM0 nM1 cM0 cM1 : Nat) (AR0 : Option Addr) (k capR0 : Nat) (roots : List Int) (a : Int) (hfew : few NM nM0 nM1 = false) (w : World) :
    Calls Try.prog 8 #[.agg #[.int .i64 NM, .slice AM0 nM0 cM0, .slice AM1 nM1 cM1], .slice AR0 k capR0, .int .u64 a] w (fun e w' => e = .returned (.bool true) ∧ Up w w') := by
  have hf := fun w => few_any NM AM0 AM1 nM0 nM1 cM0 cM1 w
  rw [hfew] at hf
  have hf := Lib.hid hf
  clear hfew
  go_enter Try.func8, Try.ntmps8
  go_wp2_with (fail)
  refine (shown_any _).mono ?_
  rintro e w1 ⟨rfl, h1⟩
  have M1 : Blk w1 (w.heap.size) 25 #[.int .i64 NM, .slice AM0 nM0 cM0, .slice AM1 nM1 cM1] := ((Blk.new' _ (by simp) _ _)).up h1
  have U1 : Up w w1 := (((Up.refl w).alloc _)).trans h1
  clear h1
  have M1c := M1.cell
  have M1l := M1.lt
  go_wp2_with (fail)
  refine (hf.out _).mono ?_
  rintro e w2 ⟨rfl, h2⟩
  have M2 := M1.up h2
  have U2 : Up w w2 := U1.trans h2
  clear h2 M1 M1c M1l U1
  have M2c := M2.cell
  have M2l := M2.lt
  go_wp2
  go_ret
  exact ⟨rfl, U2⟩

set_option maxRecDepth 100000 in
set_option maxHeartbeats 8000000 in
theorem walk_big (m : Me) (P Q : Addr) (c d : Nat) (AR0 : Option Addr) (k capR0 : Nat) (roots : List Int) (a : Int) (w : World) (hm : Sits w m P Q c d) (hn : m.n ≤ 200) (hwf : m.wf) (hro : SlOk w AR0 k capR0 roots) (ha : U64 a) (hk : 40 < k) :
    Calls Try.prog 8 #[.agg #[.int .i64 m.n, .slice (some P) m.n c, .slice (some Q) m.n d], .slice AR0 k capR0, .int .u64 a] w (fun e w' => e = .returned (.bool true) ∧ Up w w') := by
  have hfew : few m.n m.n m.n = true := by unfold few rt; simp; have := hm.1.1; omega
  have hf := fun w => few_any m.n (some P) (some Q) m.n m.n c d w
  rw [hfew] at hf
  have hf := Lib.hid hf
  have hok := hm.1
  have HM := Lib.hid hm
  clear hfew hm
  have q0 : decide ((k : Int) > 40) = true := decide_eq_true (by omega)
  clear hwf hro ha hn hok
  go_enter Try.func8, Try.ntmps8
  go_wp2_with (fail)
  refine (shown_any _).mono ?_
  rintro e w1 ⟨rfl, h1⟩
  have M1 : Blk w1 (w.heap.size) 25 #[.int .i64 m.n, .slice (some P) m.n c, .slice (some Q) m.n d] := ((Blk.new' _ (by simp) _ _)).up h1
  have U1 : Up w w1 := (((Up.refl w).alloc _)).trans h1
  clear h1
  have M1c := M1.cell
  have M1l := M1.lt
  go_wp2_with (fail)
  refine (hf.out _).mono ?_
  rintro e w2 ⟨rfl, h2⟩
  have M2 := M1.up h2
  have U2 : Up w w2 := U1.trans h2
  clear h2 M1 M1c M1l U1
  have M2c := M2.cell
  have M2l := M2.lt
  go_wp2
  go_ret
  exact ⟨rfl, U2⟩

set_option maxRecDepth 100000 in
set_option maxHeartbeats 8000000 in
theorem walk_ok (m : Me) (P Q : Addr) (c d : Nat) (AR0 : Option Addr) (k capR0 : Nat) (roots : List Int) (a : Int) (w : World) (hm : Sits w m P Q c d) (hn : m.n ≤ 200) (hwf : m.wf) (hro : SlOk w AR0 k capR0 roots) (ha : U64 a) (hk : k ≤ 40) (hk0 : 0 < k) :
    Calls Try.prog 8 #[.agg #[.int .i64 m.n, .slice (some P) m.n c, .slice (some Q) m.n d], .slice AR0 k capR0, .int .u64 a] w (fun e w' => e = .returned (.bool true) ∧ Up w w') := by
  have hfew : few m.n m.n m.n = true := by unfold few rt; simp; have := hm.1.1; omega
  have hf := fun w => few_any m.n (some P) (some Q) m.n m.n c d w
  rw [hfew] at hf
  have hf := Lib.hid hf
  have hok := hm.1
  have HM := Lib.hid hm
  clear hfew hm
  have q0 : decide ((k : Int) > 40) = false := decide_eq_false (by omega)
  obtain ⟨p, rfl, hrow⟩ := hro.1.2 hk0
  obtain rfl : roots.length = k := hro.1.1
  have h1 := Lib.hid (fun (W : World) (hU : Up w W) (hS : Sits W m P Q c d) => reach_any m P Q c d (some p) roots.length capR0 roots W hS hwf (hro.1.up hU) hro.2.2.2 (by omega))
  have h3 := Lib.hid (fun (V : World) (A : Option Addr) (cap : Nat) (hS : Sits V m P Q c d) (hr : Rd V A (roots.length + 1) (roots ++ [a])) => reach_any m P Q c d A (roots.length + 1) cap (roots ++ [a]) V hS hwf hr (fun x hx => by
    rcases List.mem_append.1 hx with q | q
    · exact hro.2.2.2 x q
    · rw [List.mem_singleton.1 q]; exact ha) (by omega))
  have h5 := Lib.hid (fun (V : World) (hS : Sits V m P Q c d) => reach_any m P Q c d none 0 0 [] V hS hwf ⟨rfl, fun q => absurd q (by omega)⟩ (fun x hx => by cases hx) (by decide))
  have hpre : m.rch roots <+: m.rch (roots ++ [a]) := by rw [rch_snoc]; exact vis_pre m _ _ _
  have hlX := rch_len m hok.2.1 roots
  have hlY := rch_len m hok.2.1 (roots ++ [a])
  rw [show m.rch [] = [] from rfl] at h5
  generalize m.rch roots = X at h1 hpre hlX
  generalize m.rch (roots ++ [a]) = Y at h3 hpre hlY
  have hlen := hpre.length_le
  have htk := Lib.hid (List.prefix_iff_eq_take.1 hpre).symm
  have q1 : decide (Y.length < X.length) = false := decide_eq_false (by omega)
  have hmx : Hid (X.length ≤ maxLen) := Lib.hid (by unfold maxLen; omega)
  clear hwf hro ha hn hok hpre
  go_enter Try.func8, Try.ntmps8
  go_wp2_with (fail)
  refine (shown_any _).mono ?_
  rintro e w1 ⟨rfl, h1⟩
  have M1 : Blk w1 (w.heap.size) 25 #[.int .i64 m.n, .slice (some P) m.n c, .slice (some Q) m.n d] := ((Blk.new' _ (by simp) _ _)).up h1
  have U1 : Up w w1 := (((Up.refl w).alloc _)).trans h1
  clear h1
  have M1c := M1.cell
  have M1l := M1.lt
  go_wp2_with (fail)
  refine (hf.out _).mono ?_
  rintro e w2 ⟨rfl, h2⟩
  have M2 := M1.up h2
  have U2 : Up w w2 := U1.trans h2
  clear h2 M1 M1c M1l U1
  have M2c := M2.cell
  have M2l := M2.lt
  go_wp2_with (fail)
  refine (h1.out _ U2 (HM.out.up U2)).mono ?_
  rintro e w3 ⟨vX, rfl, hlX, h3⟩
  have M3 := M2.up h3
  have U3 : Up w w3 := U2.trans h3
  obtain ⟨AX, capX, rfl, hcX, hmX, rdX⟩ := hlX.sl
  have rX3 := Lib.hid rdX
  clear h3 M2 M2c M2l U2 rdX hlX
  have M3c := M3.cell
  have M3l := M3.lt
  obtain ⟨W0, hW0⟩ : ∃ W0 : World, W0 = w3.drew := ⟨_, rfl⟩
  have U0 : Up W0 w3.drew := by rw [hW0]; exact Up.refl _
  have UW : Up w3 W0 := by rw [hW0]; exact (Up.refl _).drew
  have hz0 : W0.heap.size ≤ w3.heap.size := by rw [hW0]; exact Nat.le_refl _
  have M0 := M3.up UW
  have hrow0 := (hrow.up U3).up UW
  have RX0 := Lib.hid (rX3.out.up UW)
  have UU := U3.trans UW
  have h3 := Lib.hid (fun (V : World) (g cap : Nat) (hU : Up W0 V) (hl : Lo V W0.heap.size (.slice (some ⟨g, 0, none⟩) (roots.length + 1) cap) (roots ++ [a])) => h3.out V _ cap ((HM.out.up UU).up hU) hl.rd)
  have UE : Up W0 (w3.alloc (.cells #[] 31)).drew := U0.alloc _
  have US : Up W0 (w3.alloc (.cells #[.int .u64 a] 31)).drew := U0.alloc _
  have UES : Up W0 ((w3.alloc (.cells #[] 31)).alloc (.cells #[.int .u64 a] 31)).drew := (U0.alloc _).alloc _
  have USE : Up W0 ((w3.alloc (.cells #[.int .u64 a] 31)).alloc (.cells #[] 31)).drew := (U0.alloc _).alloc _
  clear hW0 M3 M3c M3l U3 rX3 hrow UW h1
  go_wp2_with (fail)
  go_region_held3 (fun w' => (∀ i, w'.cell? ⟨w.heap.size, i, none⟩ = (#[.int .i64 m.n, .slice (some P) m.n c, .slice (some Q) m.n d] : Array Value)[i]?))
    (first | exact (fun i => (Blk.up M0 (by assumption)).cell i) | exact (fun i => (Blk.up M0 (Up.alloc (by assumption) _)).cell i))
    (first
      | (refine step_words (by rfl) _ _ (by rfl) W0.heap.size (.slice (some ⟨w3.heap.size, 0, none⟩) 0 0) [] (by rfl) (lo_empty (Blk.new w3 _ _).drew (by omega)) p capR0 roots (by rfl) (hrow0.up UE) hk0 roots.length (by simp) (by omega) UE.size ?_; intro g1 cap1 wa hown1 hgrow1; have UA := Up.grown UE hgrow1 (fun k e => (by simp [Value.ownBlock] at e; omega)))
      | (refine step_words (by rfl) _ _ (by rfl) W0.heap.size (.slice (some ⟨w3.heap.size, 0, none⟩) 0 0) [] (by rfl) (lo_empty ((Blk.new w3 _ _).alloc _).drew (by omega)) p capR0 roots (by rfl) (hrow0.up UES) hk0 roots.length (by simp) (by omega) UES.size ?_; intro g1 cap1 wa hown1 hgrow1; have UA := Up.grown UES hgrow1 (fun k e => (by simp [Value.ownBlock] at e; omega)); have hS : Blk wa (w3.heap.size + 1) 31 #[.int .u64 a] := ((Blk.new' (w3.alloc (.cells #[] 31)) (by simp) 31 #[.int .u64 a]).drew).grown hgrow1 (by simp [Value.ownBlock]))
      | (refine step_words (by rfl) _ _ (by rfl) W0.heap.size (.slice (some ⟨w3.heap.size + 1, 0, none⟩) 0 0) [] (by rfl) (lo_empty (Blk.new' (g := w3.heap.size + 1) _ (by simp) _ _).drew (by omega)) p capR0 roots (by rfl) (hrow0.up USE) hk0 roots.length (by simp) (by omega) USE.size ?_; intro g1 cap1 wa hown1 hgrow1; have UA := Up.grown USE hgrow1 (fun k e => (by simp [Value.ownBlock] at e; omega)); have hS : Blk wa w3.heap.size 31 #[.int .u64 a] := (((Blk.new w3 31 #[.int .u64 a]).alloc (.cells #[] 31)).drew).grown hgrow1 (by simp [Value.ownBlock]))
      | (refine step_words (by rfl) _ _ (by rfl) W0.heap.size _ roots (by rfl) (World.ownsRow.alloc hown1 _) ⟨wa.heap.size, 0, none⟩ 1 [a] (by rfl) (blk_row1 (Blk.new wa _ _)) (by simp) (roots.length + 1) (by simp) (by omega) (UA.alloc _).size ?_; intro g2 cap2 wb hown2 hgrow2; have UB := Up.grown (UA.alloc _) hgrow2 (fun k e => (World.ownsRow.lt hown1 k e).1))
      | (refine step_words (by rfl) _ _ (by rfl) W0.heap.size _ roots (by rfl) hown1 ⟨(w3.heap.size + 1), 0, none⟩ 1 [a] (by rfl) (blk_row1 hS) (by simp) (roots.length + 1) (by simp) (by omega) UA.size ?_; intro g2 cap2 wb hown2 hgrow2; have UB := Up.grown UA hgrow2 (fun k e => (World.ownsRow.lt hown1 k e).1))
      | (refine step_words (by rfl) _ _ (by rfl) W0.heap.size _ roots (by rfl) hown1 ⟨w3.heap.size, 0, none⟩ 1 [a] (by rfl) (blk_row1 hS) (by simp) (roots.length + 1) (by simp) (by omega) UA.size ?_; intro g2 cap2 wb hown2 hgrow2; have UB := Up.grown UA hgrow2 (fun k e => (World.ownsRow.lt hown1 k e).1))
      | (go_at_call 16; ((with_reducible refine (h3.out _ _ _ (by assumption) hown2).mono ?_); rintro e wz ⟨vy, rfl, hly, hz⟩; have UZ := Up.trans (a := W0) (by assumption) hz; obtain ⟨AY, capY, rfl, hcY, hmY, rdY⟩ := hly.sl; have RY := Lib.hid rdY; clear rdY hly)))

  all_goals
    have RXz := Lib.hid (RX0.out.up UZ)
    have UF := Lib.hid (UU.trans UZ)
    clear hz UZ RX0 UU M0 h3
    go_wp2_with (fail)
    refine (h5.out _ (HM.out.up UF.out)).mono ?_
    rintro e w8 ⟨v8, rfl, hl8, h8⟩
    obtain ⟨A8, cap8, rfl⟩ := Lo.nil_sl hl8
    clear hl8
    have RXy := Lib.hid (RXz.out.up h8)
    have RYy := Lib.hid (RY.out.up h8)
    have UG := Lib.hid (UF.out.trans h8)
    clear RXz RY UF h8 HM h5
    go_wp2_with (fail)
    refine (rwords_any _ _ _ _ _ _ _ _ _ (Rd.take RYy.out hlen) RXy.out hmx.out).mono ?_
    rintro e w9 ⟨rfl, h9⟩
    go_wp2
    go_ret
    exact ⟨by rw [decide_eq_true htk.out]; rfl, UG.out.trans h9⟩

set_option maxRecDepth 100000 in
set_option maxHeartbeats 8000000 in
theorem walk_nil (m : Me) (P Q : Addr) (c d : Nat) (AR0 : Option Addr) (k capR0 : Nat) (roots : List Int) (a : Int) (w : World) (hm : Sits w m P Q c d) (hn : m.n ≤ 200) (hwf : m.wf) (hro : SlOk w AR0 k capR0 roots) (ha : U64 a) (hk : k = 0) :
    Calls Try.prog 8 #[.agg #[.int .i64 m.n, .slice (some P) m.n c, .slice (some Q) m.n d], .slice AR0 k capR0, .int .u64 a] w (fun e w' => e = .returned (.bool true) ∧ Up w w') := by
  have hfew : few m.n m.n m.n = true := by unfold few rt; simp; have := hm.1.1; omega
  have hf := fun w => few_any m.n (some P) (some Q) m.n m.n c d w
  rw [hfew] at hf
  have hf := Lib.hid hf
  have hok := hm.1
  have HM := Lib.hid hm
  clear hfew hm
  subst hk
  obtain rfl : roots = [] := List.eq_nil_of_length_eq_zero hro.1.1
  have q0 : decide (((0 : Nat) : Int) > 40) = false := by decide
  have h1 := Lib.hid (fun (W : World) (hU : Up w W) (hS : Sits W m P Q c d) => reach_any m P Q c d AR0 0 capR0 [] W hS hwf (hro.1.up hU) hro.2.2.2 (by omega))
  have h3 := Lib.hid (fun (V : World) (A : Option Addr) (cap : Nat) (hS : Sits V m P Q c d) (hr : Rd V A 1 [a]) => reach_any m P Q c d A 1 cap [a] V hS hwf hr (fun x hx => by rw [List.mem_singleton.1 hx]; exact ha) (by omega))
  have h5 := Lib.hid (fun (V : World) (hS : Sits V m P Q c d) => reach_any m P Q c d none 0 0 [] V hS hwf ⟨rfl, fun q => absurd q (by omega)⟩ (fun x hx => by cases hx) (by decide))
  have hpre : m.rch [] <+: m.rch [a] := ⟨m.rch [a], rfl⟩
  have hlX := rch_len m hok.2.1 []
  have hlY := rch_len m hok.2.1 [a]
  rw [show m.rch [] = [] from rfl] at h5
  generalize m.rch [] = X at h1 hpre hlX
  generalize m.rch [a] = Y at h3 hpre hlY
  have hlen := hpre.length_le
  have htk := Lib.hid (List.prefix_iff_eq_take.1 hpre).symm
  have q1 : decide (Y.length < X.length) = false := decide_eq_false (by omega)
  have hmx : Hid (X.length ≤ maxLen) := Lib.hid (by unfold maxLen; omega)
  clear hwf hro ha hn hok hpre
  go_enter Try.func8, Try.ntmps8
  go_wp2_with (fail)
  refine (shown_any _).mono ?_
  rintro e w1 ⟨rfl, h1⟩
  have M1 : Blk w1 (w.heap.size) 25 #[.int .i64 m.n, .slice (some P) m.n c, .slice (some Q) m.n d] := ((Blk.new' _ (by simp) _ _)).up h1
  have U1 : Up w w1 := (((Up.refl w).alloc _)).trans h1
  clear h1
  have M1c := M1.cell
  have M1l := M1.lt
  go_wp2_with (fail)
  refine (hf.out _).mono ?_
  rintro e w2 ⟨rfl, h2⟩
  have M2 := M1.up h2
  have U2 : Up w w2 := U1.trans h2
  clear h2 M1 M1c M1l U1
  have M2c := M2.cell
  have M2l := M2.lt
  go_wp2_with (fail)
  refine (h1.out _ U2 (HM.out.up U2)).mono ?_
  rintro e w3 ⟨vX, rfl, hlX, h3⟩
  have M3 := M2.up h3
  have U3 : Up w w3 := U2.trans h3
  obtain ⟨AX, capX, rfl, hcX, hmX, rdX⟩ := hlX.sl
  have rX3 := Lib.hid rdX
  clear h3 M2 M2c M2l U2 rdX hlX
  have M3c := M3.cell
  have M3l := M3.lt
  obtain ⟨W0, hW0⟩ : ∃ W0 : World, W0 = w3.drew := ⟨_, rfl⟩
  have U0 : Up W0 w3.drew := by rw [hW0]; exact Up.refl _
  have UW : Up w3 W0 := by rw [hW0]; exact (Up.refl _).drew
  have hz0 : W0.heap.size ≤ w3.heap.size := by rw [hW0]; exact Nat.le_refl _
  have M0 := M3.up UW
  have RX0 := Lib.hid (rX3.out.up UW)
  have UU := U3.trans UW
  have h3 := Lib.hid (fun (V : World) (g cap : Nat) (hU : Up W0 V) (hl : Lo V W0.heap.size (.slice (some ⟨g, 0, none⟩) 1 cap) [a]) => h3.out V _ cap ((HM.out.up UU).up hU) hl.rd)
  have UE : Up W0 (w3.alloc (.cells #[] 31)).drew := U0.alloc _
  have UEA : Up W0 ((w3.alloc (.cells #[] 31)).drew.alloc (.cells #[.int .u64 a] 31)) := UE.alloc _
  have UES : Up W0 ((w3.alloc (.cells #[] 31)).alloc (.cells #[.int .u64 a] 31)).drew := (U0.alloc _).alloc _
  have USE : Up W0 ((w3.alloc (.cells #[.int .u64 a] 31)).alloc (.cells #[] 31)).drew := (U0.alloc _).alloc _
  clear hW0 M3 M3c M3l U3 rX3 UW h1
  go_wp2_with (fail)
  go_region_held3 (fun w' => (∀ i, w'.cell? ⟨w.heap.size, i, none⟩ = (#[.int .i64 m.n, .slice (some P) m.n c, .slice (some Q) m.n d] : Array Value)[i]?))
    (exact (fun i => (Blk.up M0 (by first | assumption | exact U0.alloc _ | exact (U0.alloc _).alloc _ | (trace_state; fail))).cell i))
    (first
      | (refine step_nothing (by rfl) _ _ (by rfl) ⟨w3.heap.size, 0, none⟩ AR0 capR0 (by rfl) (by rfl) ?_)
      | (refine step_nothing (by rfl) _ _ (by rfl) ⟨w3.heap.size + 1, 0, none⟩ AR0 capR0 (by rfl) (by rfl) ?_)
      | (refine step_words (by rfl) _ _ (by rfl) W0.heap.size (.slice (some ⟨w3.heap.size, 0, none⟩) 0 0) [] (by rfl) (lo_empty ((Blk.new w3 _ _).drew.alloc _) (by omega)) ⟨w3.heap.size + 1, 0, none⟩ 1 [a] (by rfl) (blk_row1 (Blk.new' (w3.alloc (.cells #[] 31)).drew (by simp) _ _)) (by simp) 1 (by simp) (by omega) UEA.size ?_; intro g2 cap2 wb hown2 hgrow2; have UB := Up.grown UEA hgrow2 (fun k e => (by simp [Value.ownBlock] at e; omega)))
      | (refine step_words (by rfl) _ _ (by rfl) W0.heap.size (.slice (some ⟨w3.heap.size, 0, none⟩) 0 0) [] (by rfl) (lo_empty ((Blk.new w3 _ _).alloc _).drew (by omega)) ⟨w3.heap.size + 1, 0, none⟩ 1 [a] (by rfl) (blk_row1 (Blk.new' (w3.alloc (.cells #[] 31)) (by simp) _ _).drew) (by simp) 1 (by simp) (by omega) UES.size ?_; intro g2 cap2 wb hown2 hgrow2; have UB := Up.grown UES hgrow2 (fun k e => (by simp [Value.ownBlock] at e; omega)))
      | (refine step_words (by rfl) _ _ (by rfl) W0.heap.size (.slice (some ⟨w3.heap.size + 1, 0, none⟩) 0 0) [] (by rfl) (lo_empty (Blk.new' (g := w3.heap.size + 1) _ (by simp) _ _).drew (by omega)) ⟨w3.heap.size, 0, none⟩ 1 [a] (by rfl) (blk_row1 ((Blk.new w3 31 #[.int .u64 a]).alloc (.cells #[] 31)).drew) (by simp) 1 (by simp) (by omega) USE.size ?_; intro g2 cap2 wb hown2 hgrow2; have UB := Up.grown USE hgrow2 (fun k e => (by simp [Value.ownBlock] at e; omega)))
      | (go_at_call 16; ((with_reducible refine (h3.out _ _ _ (by assumption) hown2).mono ?_); rintro e wz ⟨vy, rfl, hly, hz⟩; have UZ := Up.trans (a := W0) (by assumption) hz; obtain ⟨AY, capY, rfl, hcY, hmY, rdY⟩ := hly.sl; have RY := Lib.hid rdY; clear rdY hly)))

  all_goals
    have RXz := Lib.hid (RX0.out.up UZ)
    have UF := Lib.hid (UU.trans UZ)
    clear hz UZ RX0 UU M0 h3
    go_wp2_with (fail)
    refine (h5.out _ (HM.out.up UF.out)).mono ?_
    rintro e w8 ⟨v8, rfl, hl8, h8⟩
    obtain ⟨A8, cap8, rfl⟩ := Lo.nil_sl hl8
    clear hl8
    have RXy := Lib.hid (RXz.out.up h8)
    have RYy := Lib.hid (RY.out.up h8)
    have UG := Lib.hid (UF.out.trans h8)
    clear RXz RY UF h8 HM h5
    go_wp2_with (fail)
    refine (rwords_any _ _ _ _ _ _ _ _ _ (Rd.take RYy.out hlen) RXy.out hmx.out).mono ?_
    rintro e w9 ⟨rfl, h9⟩
    go_wp2
    go_ret
    exact ⟨by rw [decide_eq_true htk.out]; rfl, UG.out.trans h9⟩

theorem walk (NM : Int) (AM0 AM1 : Option Addr) (nM0 nM1 cM0 cM1 : Nat) (xsM ysM : List Int) (AR0 : Option Addr) (k capR0 : Nat) (roots : List Int) (a : Int) (w : World) (hxM : SlOk w AM0 nM0 cM0 xsM) (hyM : SlOk w AM1 nM1 cM1 ysM) (hro : SlOk w AR0 k capR0 roots) (ha : U64 a) :
    Calls Try.prog 8 #[.agg #[.int .i64 NM, .slice AM0 nM0 cM0, .slice AM1 nM1 cM1], .slice AR0 k capR0, .int .u64 a] w (fun e w' => e = .returned (.bool true) ∧ Up w w') := by
  cases hfew : few NM nM0 nM1
  · exact walk_no NM AM0 AM1 nM0 nM1 cM0 cM1 AR0 k capR0 roots a hfew w
  · obtain ⟨rfl, rfl, h16, h200⟩ := few_is hfew
    obtain ⟨P, Q, rfl, rfl, hm⟩ := sits_of hxM hyM h16 (by omega)
    have hwf := sits_wf hxM hyM
    by_cases hk : 40 < k
    · exact walk_big ⟨nM0, xsM, ysM⟩ P Q cM0 cM1 AR0 k capR0 roots a w hm h200 hwf hro ha hk
    by_cases hk0 : k = 0
    · exact walk_nil ⟨nM0, xsM, ysM⟩ P Q cM0 cM1 AR0 k capR0 roots a w hm h200 hwf hro ha hk0
    · exact walk_ok ⟨nM0, xsM, ysM⟩ P Q cM0 cM1 AR0 k capR0 roots a w hm h200 hwf hro ha (by omega) (by omega)
set_option maxRecDepth 100000 in
theorem opened {H : Type} {enc : TypeId × Value → H} {w : World} {r : Reach} {b0 : Nat} {v : Value} {d : DataW H} {p : List MemPlace} (hv : Value.okWide Try.prog w r b0 25 v) (h : DataW.Trod enc Try.prog w 0 (fun _ => true) true 25 v d p) :
    ∃ (N : Int) (A0 A1 : Option Addr) (n0 n1 c0 c1 : Nat) (xs ys : List Int), v = .agg #[.int .i64 N, .slice A0 n0 c0, .slice A1 n1 c1] ∧ I64 N ∧ SlOk w A0 n0 c0 xs ∧ SlOk w A1 n1 c1 ys := by
  obtain ⟨⟨l⟩, rfl, hsz⟩ := okWide_struct Try.underlying25 hv
  match l, hsz.trans cells_mem with
  | [z0, z1, z2], _ =>
    obtain ⟨fuel, hf⟩ := h
    obtain ⟨N, A0, A1, n0, n1, c0, c1, xs, ys, rfl, rfl, rfl, h1, h2, h3⟩ := mem_open (v0 := z0) (v1 := z1) (v2 := z2) hf
    exact ⟨N, A0, A1, n0, n1, c0, c1, xs, ys, rfl, h1, h2, h3⟩

theorem own : ownKnob Try.prog.godebug = none := by kernel_rfl
set_option maxRecDepth 100000 in
theorem lifted (os : Os) (started : os.Started) (H : Type) (enc : TypeId × Value → H) :
    ReturnsInHanded {} Try.checked os 8 .any (Rows.walkMoreSpec.pre6 enc Try.prog Try.f8 Rows.walkMoreRow.domain false) (Rows.walkMoreSpec.post enc Try.prog Try.f8 false true false false) := by
  refine returnsInHanded_of_change (C := Try.checked) own started (by kernel_rfl) Try.func8
    (ChangeSpec.witness6 (enc := enc) (C := Try.checked) false ⟨#[], #[.agg #[.int .i64 0, .slice none 0 0, .slice none 0 0], .slice none 0 0, .int .u64 0], []⟩ 8 (by kernel_rfl) (by kernel_rfl) (by kernel_rfl) (by kernel_rfl)) ?_
  intro W base args ds gs before hval0 hW hcnd _
  have hval : ∀ (j : Nat) t v, Try.f8.params[j]? = some t → args[j]? = some v → Value.okWide Try.prog W .any base t v := hval0
  have hW' := hW
  obtain ⟨p, q, hA0, hV, rfl, hfz, hnd⟩ := hW
  have hA : DataW.TrodAll enc Try.prog W 0 (fun _ => true) true Try.f8.params.toList args.toList ds p := hA0
  rw [Try.params8] at hA hval
  obtain ⟨v0, vs0, d0, ds0, p0, q0, hargs, rfl, rfl, h0, r0⟩ := trodAll_cons hA
  obtain ⟨v1, vs1, d1, ds1, p1, q1, rfl, rfl, rfl, h1, r1⟩ := trodAll_cons r0
  obtain ⟨v2, vs2, d2, ds2, p2, q2, rfl, rfl, rfl, h2, r2⟩ := trodAll_cons r1
  obtain ⟨rfl, rfl, rfl⟩ := trodAll_nil r2
  obtain rfl : args = #[v0, v1, v2] := by cases args; simp_all
  obtain ⟨rfl, rfl⟩ := trodVars_none hV
  have h0k := h0
  obtain ⟨N, A0, A1, n0, n1, c0, c1, xs, ys, rfl, hN, hx, hy⟩ := opened (hval 0 25 v0 rfl rfl) h0
  have h1k := h1
  obtain ⟨R1, k1, e1, zs1, rfl, hz1⟩ := words_in (hval 1 22 v1 rfl rfl) h1
  obtain ⟨a2, rfl, rfl, rfl, w2⟩ := open_int Try.underlying31 (hval 2 31 v2 rfl rfl) h2
  clear hA0 hval0
  simp only [List.append_nil, List.nil_append] at hW'
  refine (walk N A0 A1 n0 n1 c0 c1 xs ys R1 k1 e1 zs1 a2 W hx hy hz1 ⟨nn_of_wf w2, hi_of_wf w2⟩).mono fun e W' ⟨he, hg⟩ => ?_
  subst he
  exact ⟨_, rfl, post_below (pa := p0 ++ p1) (pv := []) hW' (fun _ _ _ => (trodAll_cons_mk (shut_bool Try.underlying4 _) trodAll_mk0))
    (fun sp hsp => by
      have t := (trodAll_cons_mk (trod_keeps (sp := sp) (by kernel_rfl) (of_decide_eq_true (by kernel_rfl)) h0k hg (fun x hx => hW'.lt x (by simp [hx])) (fun x hx => hsp x (by simp [hx]))) (trodAll_cons_mk (trod_keeps (sp := sp) (by kernel_rfl) (of_decide_eq_true (by kernel_rfl)) h1k hg (fun x hx => hW'.lt x (by simp [hx])) (fun x hx => hsp x (by simp [hx]))) (trodAll_cons_mk (shut_int Try.underlying31 w2) trodAll_mk0)))
      simp only [List.append_nil, List.nil_append] at t
      exact t) (fun _ _ => rfl) (by simp)
    hg (ok_one (by kernel_rfl) rfl (okWide_bool_mk Try.underlying4 _))⟩

theorem over : Rows.walkMoreRow.holds Try.pinned (OpenSpec.ofChange Rows.walkMoreSpec) :=
  OpenClaim.holds_of_wide 8 Try.f8 rfl rfl rfl rfl rfl rfl rfl ⟨rfl, rfl, rfl, rfl, rfl⟩ rfl rfl rfl rfl rfl (by kernel_rfl) Try.func8 (by kernel_rfl)
    (of_decide_eq_true (by kernel_rfl)) (by unfold Func.isWrapper; first | (rw [if_pos (by decide +kernel)]; kernel_rfl) | (rw [if_neg (by decide +kernel)]; exact ⟨rfl, rfl⟩))
    (fun os started H enc _ => lifted os started H enc)

theorem proved : Rows.WalkMoreSaid :=
  over
#print axioms proved
end Go.Proofs.Ytmjadmoadedghaa.LWalkMore
