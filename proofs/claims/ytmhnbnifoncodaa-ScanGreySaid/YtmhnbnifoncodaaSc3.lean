/- An object's fields that are pointers, and their words (package scan's pointers: a range over a function): contracts. One pointer put right (the closure of scan.One): contract. -/
import Derived.Test.YtmhnbnifoncodaaSc1
import Derived.Test.YtmhnbnifoncodaaTw5
namespace Go.Proofs.Ytmhnbnifoncodaa
open Go.ChangeShapes Go.WideShapes Go.ChangeAt Go.RowKit Go.Shelf
set_option linter.unusedVariables false
set_option linter.unusedSimpArgs false
attribute [local go_sem] Oper.semAt_some

/-- Which fields they are. -/
def Me.pis (m : Me) (a : Int) : List Nat := pts (m.atl a) (m.atm a)
/-- What is told at each: which one, and its word. -/
def pen (m : Me) (a : Int) (x : Nat) : Array Value := #[Value.int .i64 ((m.pis a).getD x 0 : Nat), Value.int .u64 (m.getv a ((m.pis a).getD x 0 : Nat))]
theorem pis_len (m : Me) (a : Int) : (m.pis a).length ≤ 16 := pts_len _ _ (atm_nn m a) (atm_65535 m a)

theorem pointers_any (n : Nat) (P Q : Addr) (c d : Nat) (a : Int) (w : World) :
    Calls Try.prog 17 #[.agg #[.int .i64 n, .slice (some P) n c, .slice (some Q) n d], .int .u64 a] w fun e w' => e = .returned (.func (.func 41) #[] #[bx w.heap.size, bx (w.heap.size + 1)])
      ∧ w' = (w.alloc (.cells #[.int .i64 n, .slice (some P) n c, .slice (some Q) n d] 25)).alloc (.cells #[.int .u64 a] 41) := by
  go_enter Try.func17, Try.ntmps17
  go_wp2
  go_ret
  exact ⟨rfl, rfl⟩

/-- A slice reads as a list of places of fields, in a block that is known whole. -/
def RdI (w : World) (A : Option Addr) (xs : List Nat) : Prop := 0 < xs.length → ∃ g cs, A = some ⟨g, 0, none⟩ ∧ Blk w g 3 cs ∧ ∀ (j x : Nat), xs[j]? = some x → cs[j]? = some (.int .i64 x)
theorem RdI.to {w w' : World} {A : Option Addr} {xs : List Nat} (h : RdI w A xs) (k : ∀ g cs, Blk w g 3 cs → Blk w' g 3 cs) : RdI w' A xs := fun q => by
  obtain ⟨g, cs, e, hb, hx⟩ := h q
  exact ⟨g, cs, e, k _ _ hb, hx⟩
theorem lst_rd {w : World} {n₀ : Nat} {v : Value} {xs : List Nat} (h : w.ownsRow n₀ 3 1 v xs.length (xs.map fun x : Nat => Value.int .i64 x)) : ∃ A cap, v = .slice A xs.length cap ∧ RdI w A xs := by
  obtain ⟨hl, hc⟩ := h
  rcases hc with ⟨rfl, h0⟩ | ⟨g, cap, cur, rfl, hb, hg, h1, h2, h3, h4⟩
  · exact ⟨none, 0, by rw [h0], fun q => by omega⟩
  · refine ⟨_, _, rfl, fun q => ⟨g, cur, rfl, hg, fun j x hx => ?_⟩⟩
    have hj : (xs.map fun x : Nat => Value.int .i64 x)[j]? = some (.int .i64 x) := by simp [hx]
    rw [← h4, List.getElem?_take] at hj
    have hlt : j < xs.length := by
      rcases Nat.lt_or_ge j xs.length with q | q
      · exact q
      · rw [List.getElem?_eq_none q] at hx; cases hx
    rw [if_pos (by omega)] at hj
    simpa using hj
theorem RdI.at_ {w : World} {A : Option Addr} {xs : List Nat} (h : RdI w A xs) {j : Nat} (hj : j < xs.length) : ∃ g, A = some ⟨g, 0, none⟩ ∧ w.cell? ⟨g, j, none⟩ = some (.int .i64 (xs.getD j 0 : Nat)) := by
  obtain ⟨g, cs, e, hb, hx⟩ := h (by omega)
  refine ⟨g, e, ?_⟩
  rw [hb.cell j]
  exact hx j _ (by simp [List.getD, List.getElem?_eq_getElem hj])

theorem range_pre {x n : Nat} (h : x ≤ n) : List.range x <+: List.range n := by
  obtain ⟨d, rfl⟩ := Nat.le.dest h
  rw [List.range_add]
  exact List.prefix_append _ _
set_option maxRecDepth 100000 in
set_option maxHeartbeats 4000000 in
theorem pointers_stops (n : Nat) (hn : 1 ≤ n) (m : Me) (a : Int) (P Q : Addr) (c d Bm Ba : Nat) (w : World) (Kp : World → World → Prop) (Cp : World → Prop) (hwf : m.wf) (ha : U64 a)
    (hC1 : ∀ A B, Cp A → Up A B → Cp B) (hC2 : ∀ A B, Cp A → Kp A B → Cp B) (hC3 : ∀ A, Cp A → Box A Bm m P Q c d ∧ Blk A Ba 41 #[.int .u64 a])
    (hK : ∀ A B g cs, Cp A → Kp A B → Blk A g 3 cs → Blk B g 3 cs)
    (hc : Cp w) :
    SeqStopsK Fence.wide n Try.prog 41 #[bx Bm, bx Ba] (pen m a) Kp (fun ys => ys = List.range (m.pis a).length) (fun pre => pre <+: List.range (m.pis a).length) (m.pis a).length w := by
  intro l J Jx W hW hJ hJx hY h0
  have hC := hC1 _ _ hc hW
  have hat := Lib.hid (fun (W : World) (hS : Sits W m P Q c d) => at_any m a P Q c d W hS ha hwf)
  have hpt := Lib.hid (fun w => ptrs_any (m.att a) (m.atl a) (m.atm a) (atm_nn m a) (atm_65535 m a) w)
  have hgt := Lib.hid (fun (i : Nat) (hi : i ∈ pts (m.atl a) (m.atm a)) (W : World) (hS : Sits W m P Q c d) => by
    have h := get_any m a i P Q c d W hS ha hwf
    rw [gete_0.2 (pts_fok hi)] at h
    exact h)
  obtain ⟨ps, hps⟩ : ∃ ps, pts (m.atl a) (m.atm a) = ps := ⟨_, rfl⟩
  have hps' : m.pis a = ps := hps
  have hb16 : ps.length ≤ 16 := by rw [← hps]; exact pts_len _ _ (atm_nn m a) (atm_65535 m a)
  rw [hps] at hgt hpt
  have hpen : ∀ x, pen m a x = #[Value.int .i64 (ps.getD x 0 : Nat), Value.int .u64 (m.getv a (ps.getD x 0 : Nat))] := fun x => by unfold pen; rw [hps']
  have HP := Lib.hid hpen
  rw [hps'] at hY ⊢
  generalize m.att a = t at hat hpt
  generalize m.atl a = lo at hat hpt
  generalize m.atm a = mp at hat hpt
  generalize m.ate a = z at hat
  clear hpen hps hps' hc
  have hcM := (hC3 _ hC).1.1.cell
  have hcA := (hC3 _ hC).2.cell
  refine callsIn_of_wp Try.func41 rfl trivial ?_ rfl
  simp only [Try.ntmps41, List.size_toArray, List.length_cons, List.length_nil, Nat.reduceAdd, Nat.reduceSub, Array.replicate_succ, Array.replicate_zero, List.push_toArray, List.append_toArray, List.nil_append, List.cons_append]
  gi_wp2_with (fail)
  refine ⟨trivial, ?_⟩
  refine (callsIn_wide.2 (hat.out _ (hC3 _ hC).1.2)).mono ?_
  rintro e w1 ⟨rfl, h1⟩
  have U1 := h1.alloc (.cells (hcs t lo mp) 43)
  have H1c := (Blk.new w1 43 (hcs t lo mp)).cell
  clear h1 hcM hcA hat
  gi_wp2_with (fail)
  refine ⟨trivial, ?_⟩
  refine (callsIn_wide.2 (hpt.out _)).mono ?_
  rintro e w2 ⟨v, rfl, hrow, h2⟩
  obtain ⟨A, cap, rfl, hrd⟩ := lst_rd hrow
  have U2 := U1.trans h2
  have C2 := Lib.hid (hC1 _ _ hC U2)
  have J2 := Lib.hid (hJ _ _ _ none h0 U2.gb (fun r e => by cases e))
  have R2 := Lib.hid hrd
  clear U1 H1c hrow h2 hpt hC h0 hrd U2
  gi_wp2_with (fail)
  gi_loopw [20] (fun i wr => ∃ x : Nat, x ≤ ps.length ∧ i = .int .i64 x ∧ J (List.range x) wr ∧ Cp wr ∧ RdI wr A ps) (fun i _ => ps.length - (intOf i).toNat)
  case atStart => exact ⟨0, Nat.zero_le _, rfl, J2.out, C2.out, R2.out⟩
  case round =>
    obtain ⟨x, hx, rfl, hJk, hCk, hRk⟩ := hrel
    clear J2 C2 R2
    by_cases hlt : x < ps.length
    · obtain ⟨g, rfl, hcell⟩ := hRk.at_ hlt
      have hgx := Lib.hid (hgt.out _ (List.getElem_mem hlt))
      have e1 : ps.getD x 0 = ps[x] := by simp [List.getD, List.getElem?_eq_getElem hlt]
      have hpx := HP.out x
      rw [e1] at hcell hpx
      generalize ps[x] = i at hgx hcell hpx
      have HPX := Lib.hid hpx
      generalize m.getv a (i : Nat) = v at hgx hpx HPX
      clear e1 hpx
      have hcM := (hC3 _ hCk).1.1.cell
      have hcA := (hC3 _ hCk).2.cell
      generalize m.getb a (i : Nat) = pb at hgx
      have CK := Lib.hid hCk
      have JK := Lib.hid hJk
      have RK := Lib.hid hRk
      clear hCk hJk hRk
      gi_wp2_with (fail)
      refine ⟨trivial, ?_⟩
      refine (callsIn_wide.2 (hgx.out _ (hC3 _ CK.out).1.2)).mono ?_
      rintro e w3 ⟨rfl, h3⟩
      have C3 := Lib.hid (hC1 _ _ CK.out h3)
      have J3 := hJ _ _ _ none JK.out h3.gb (fun r e => by cases e)
      have R3 := Lib.hid (RK.out.to (fun g cs hb => hb.up h3))
      clear CK JK RK hcM hcA hcell h3 hgx
      obtain ⟨fn, tmps, assign, body, hy, hR⟩ := hY (List.range x) x w3 J3 (by rw [List.length_range]; exact hlt)
      rw [HPX.out] at hy
      clear J3
      gi_wp2
      refine hR.mono ?_
      rintro e W3 (⟨rfl, hJ3, hk3⟩ | ⟨rfl, hJx3⟩)
      · have C4 := Lib.hid (hC2 _ _ C3.out hk3)
        have R4 := Lib.hid (R3.out.to (fun g cs hb => hK _ _ _ _ C3.out hk3 hb))
        have J4 := Lib.hid hJ3
        clear C3 R3 hJ3 hk3
        gi_wp2
        go_roundw
        case rel => exact ⟨x + 1, by omega, by go_num, by rw [List.range_succ]; exact J4.out, C4.out, R4.out⟩
        case measure => simp [intOf]; omega
      · gi_wp2
        refine bodyPost_ret (results_none rfl _ _ _) rfl ?_
        exact ⟨⟨_, rfl⟩, .inr ⟨_, by rw [← List.range_succ]; exact range_pre (by omega), hJx3⟩⟩
    · obtain rfl : x = ps.length := by omega
      gi_wp2
      go_end0
      exact ⟨⟨_, rfl⟩, .inl ⟨_, rfl, hJk⟩⟩
end Go.Proofs.Ytmhnbnifoncodaa
namespace Go.Proofs.Ytmhnbnifoncodaa
open Go.ChangeShapes Go.WideShapes Go.ChangeAt Go.RowKit
set_option linter.unusedVariables false
set_option linter.unusedSimpArgs false

theorem Kp.set8 {S : List Nat} {a b : World} (h : Kp S a b) {g : Nat} (hg : g ∈ S) (u0 u1 u2 u3 u4 u5 u6 u7 : Value) :
    Kp S a ((((((((b.setCell ⟨g, 0, none⟩ u0).setCell ⟨g, 1, none⟩ u1).setCell ⟨g, 2, none⟩ u2).setCell ⟨g, 3, none⟩ u3).setCell ⟨g, 4, none⟩ u4).setCell ⟨g, 5, none⟩ u5).setCell ⟨g, 6, none⟩ u6).setCell ⟨g, 7, none⟩ u7) :=
  (((((((h.set_ hg u0).set_ hg u1).set_ hg u2).set_ hg u3).set_ hg u4).set_ hg u5).set_ hg u6).set_ hg u7
/-- What the closure leaves: a room in its box. -/
def RgPost (w : World) (B : Nat) (K : Me) (s a' l x y er : Int) (e : Ending) (w' : World) : Prop :=
  e = .returned (.int .i64 er) ∧ Kp [B] w w' ∧ ∃ (P' Q' : Addr) (c' d' : Nat), Blk w' B 31 (roc K.n (sl P' K.n c') (sl Q' K.n d') s a' l x y) ∧ Sits w' K P' Q' c' d'

set_option maxRecDepth 100000 in
set_option maxHeartbeats 4000000 in
/-- It is refused, or right already. -/
theorem right_no (m : Me) (s a l x y A i p : Int) (P Q : Addr) (c d B Ba : Nat) (w : World) (hB : Blk w B 31 (roc m.n (sl P m.n c) (sl Q m.n d) s a l x y)) (hm : Sits w m P Q c d) (hwf : m.wf) (hp : U64 p) (hr : rgt s a l) (hl : l = m.n)
    (hx : (toa m s a l p).e ≠ 0 ∨ (toa m s a l p).b = p) :
    Calls Try.prog 14 #[.int .i64 i, .int .u64 p, bx B, bx Ba] w (RgPost w B (toa m s a l p).m s (toa m s a l p).a l x y (toa m s a l p).e) := by
  have ht := Lib.hid (to_any m s a l x y p P Q c d w hm hp hwf hr hl)
  generalize (toa m s a l p).m = K at ht ⊢
  generalize (toa m s a l p).a = a' at ht ⊢
  generalize (toa m s a l p).b = b at ht hx
  generalize (toa m s a l p).e = er at ht hx ⊢
  have hBc := hB.cell
  have hBl := hB.lt
  simp only [roc] at hBc
  clear hm hp hwf hr hl
  by_cases he : er = 0
  · have hb : b = p := by rcases hx with q | q; exact absurd he q; exact q
    subst he
    subst hb
    clear hx
    go_enter Try.func14, Try.ntmps14
    go_wp2_with (fail)
    refine ht.out.mono ?_
    rintro e w1 ⟨P', Q', c', d', rfl, sz, h1, -⟩
    have B1 := hB.up h1
    have B1c := B1.cell
    have B1f := B1.frozen
    have B1l := B1.lt
    have i1 : ¬ w1.heap.size = B := by omega
    have i2 : ¬ B = w1.heap.size := by omega
    simp only [roc] at B1c
    go_wp2
    go_ret
    exact ⟨rfl, ((Kp.of_up h1).set8 (by simp) _ _ _ _ _ _ _ _).up ((Up.refl _).alloc _), P', Q', c', d', (B1.set8 _ _ _ _ _ _ _ _).alloc _, (sz.far8 B1 _ _ _ _ _ _ _ _).up ((Up.refl _).alloc _)⟩
  · have he' : (er == 0) = false := beq_eq_false_iff_ne.2 he
    clear hx he
    go_enter Try.func14, Try.ntmps14
    go_wp2_with (fail)
    refine ht.out.mono ?_
    rintro e w1 ⟨P', Q', c', d', rfl, sz, h1, -⟩
    have B1 := hB.up h1
    have B1c := B1.cell
    have B1f := B1.frozen
    have B1l := B1.lt
    have i1 : ¬ w1.heap.size = B := by omega
    have i2 : ¬ B = w1.heap.size := by omega
    simp only [roc] at B1c
    go_wp2
    go_ret
    exact ⟨rfl, ((Kp.of_up h1).set8 (by simp) _ _ _ _ _ _ _ _).up ((Up.refl _).alloc _), P', Q', c', d', (B1.set8 _ _ _ _ _ _ _ _).alloc _, (sz.far8 B1 _ _ _ _ _ _ _ _).up ((Up.refl _).alloc _)⟩

set_option maxRecDepth 100000 in
set_option maxHeartbeats 4000000 in
/-- It becomes another. -/
theorem right_set (m : Me) (s a l x y A i p : Int) (P Q : Addr) (c d B Ba : Nat) (w : World) (hB : Blk w B 31 (roc m.n (sl P m.n c) (sl Q m.n d) s a l x y)) (hBa : Blk w Ba 41 #[.int .u64 A]) (hm : Sits w m P Q c d) (hwf : m.wf) (hA : U64 A) (hp : U64 p) (hr : rgt s a l) (hl : l = m.n)
    (he : (toa m s a l p).e = 0) (hb : (toa m s a l p).b ≠ p) :
    Calls Try.prog 14 #[.int .i64 i, .int .u64 p, bx B, bx Ba] w (RgPost w B ((toa m s a l p).m.setm A i (toa m s a l p).b) s (toa m s a l p).a l x y ((toa m s a l p).m.gete A i)) := by
  have ht := Lib.hid (to_any m s a l x y p P Q c d w hm hp hwf hr hl)
  have hKw := (toa_la (A := p) hm.1 hwf hr hl).wf
  rw [he] at ht
  have hb' : ((toa m s a l p).b != p) = true := bne_iff_ne.2 hb
  generalize (toa m s a l p).m = K at ht hKw ⊢
  generalize (toa m s a l p).a = a' at ht ⊢
  generalize (toa m s a l p).b = b at ht hb' ⊢
  have hst := Lib.hid (fun (P' Q' : Addr) (c' d' : Nat) (W : World) (hS : Sits W K P' Q' c' d') => set_any K A i b P' Q' c' d' W hS hA hKw)
  have hn : (K.setm A i b).n = K.n := set_n _ _ _ _
  generalize K.setm A i b = K2 at hst hn ⊢
  generalize K.gete A i = z at hst ⊢
  have hBc := hB.cell
  have hBl := hB.lt
  have hne : B ≠ Ba := fun e => by subst e; have := hB.symm.trans hBa; simp at this
  simp only [roc] at hBc
  clear hm hp hwf hr hl he hb hKw hA
  go_enter Try.func14, Try.ntmps14
  go_wp2_with (fail)
  refine ht.out.mono ?_
  rintro e w1 ⟨P', Q', c', d', rfl, sz, h1, -⟩
  have B1 := hB.up h1
  have A1 := hBa.up h1
  have A1c := A1.cell
  have A1l := A1.lt
  have B1l := B1.lt
  go_wp2_with (fail)
  refine calls_at (fun V hV => ?_)
  have UV : Up w1 V := by rw [hV]; exact (Up.refl w1).alloc _
  have X1 : Blk V w1.heap.size 31 (roc K.n (sl P' K.n c') (sl Q' K.n d') s a' l x y) := by rw [hV]; exact Blk.new w1 _ _
  clear hV
  refine (hst.out P' Q' c' d' V (sz.up UV)).mono ?_
  rintro e w3 ⟨P5, Q5, c5, d5, rfl, s3, h3⟩
  rw [hn]
  have X3 := X1.up h3
  have B3 := (B1.up UV).up h3
  have U3 := (h1.trans UV).trans h3
  have i1 : w1.heap.size ≠ B := by omega
  have i2 : B ≠ w1.heap.size := by omega
  have hwz := h1.size
  clear X1 sz UV h1 h3 A1c A1 A1l B1 hBc hB hBa
  have X3c := X3.cell
  have X3f := X3.frozen
  have X3l := X3.lt
  have B3c := B3.cell
  have B3f := B3.frozen
  have B3l := B3.lt
  simp only [roc] at X3c B3c
  go_wp2_with (fail)
  go_ret
  refine ⟨rfl, ((((Kp.of_up U3).own (by omega) _).own (by omega) _).own (by omega) _).set8 (by simp) _ _ _ _ _ _ _ _, P5, Q5, c5, d5, ?_, s3.kp (((Kp.refl [w1.heap.size, B] w3).set3 (by simp) _ _ _).set8 (by simp) _ _ _ _ _ _ _ _) (Tiny.two X3 B3 (by simp [roc]) (by simp [roc]))⟩
  rw [hn]
  exact (B3.far3 i2 _ _ _).set8 _ _ _ _ _ _ _ _

theorem rightp_any (m : Me) (s a l x y A i p : Int) (P Q : Addr) (c d B Ba : Nat) (w : World) (hB : Blk w B 31 (roc m.n (sl P m.n c) (sl Q m.n d) s a l x y)) (hBa : Blk w Ba 41 #[.int .u64 A]) (hm : Sits w m P Q c d) (hwf : m.wf) (hA : U64 A) (hp : U64 p) (hr : rgt s a l) (hl : l = m.n) :
    Calls Try.prog 14 #[.int .i64 i, .int .u64 p, bx B, bx Ba] w (RgPost w B (rgs m s a l A i p).m s (rgs m s a l A i p).a l x y (rgs m s a l A i p).e) := by
  by_cases he : (toa m s a l p).e = 0
  · by_cases hb : (toa m s a l p).b = p
    · have h := right_no m s a l x y A i p P Q c d B Ba w hB hm hwf hp hr hl (.inr hb)
      rw [he] at h
      unfold rgs
      rw [if_neg (fun q => q he), if_pos hb]
      exact h
    · have h := right_set m s a l x y A i p P Q c d B Ba w hB hBa hm hwf hA hp hr hl he hb
      unfold rgs
      rw [if_neg (fun q => q he), if_neg hb]
      exact h
  · have h := right_no m s a l x y A i p P Q c d B Ba w hB hm hwf hp hr hl (.inl he)
    unfold rgs
    rw [if_pos he]
    exact h
end Go.Proofs.Ytmhnbnifoncodaa
