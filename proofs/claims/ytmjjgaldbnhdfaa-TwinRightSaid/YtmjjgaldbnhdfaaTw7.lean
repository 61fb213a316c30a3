/- The twins of some (twin.Each): contract. -/
import Derived.Test.YtmjjgaldbnhdfaaTw6
namespace Go.Proofs.Ytmjjgaldbnhdfaa
open Go.ChangeShapes Go.WideShapes Go.ChangeAt Go.RowKit
set_option linter.unusedVariables false
set_option linter.unusedSimpArgs false

/-- The closures, for addresses that lie in boxes. -/
def cls (T : Nat) (Lp : List (Int × Nat)) : List Clo := Lp.map fun p => (23, #[bx p.2, bx T])
def fsts (Lp : List (Int × Nat)) : List Int := Lp.map Prod.fst
/-- What the row comes to. -/
def EPhi (n₀ T : Nat) (s l x y : Int) (z : Ea) (ts : List Int) (r : Rv) (er : Int) (w' : World) : Prop :=
  er = z.e ∧ ∃ P' Q' c' d', r = ⟨z.m.n, P', Q', c', d', s, z.a, l, x, y⟩ ∧ Sits w' z.m P' Q' c' d' ∧ (er = 0 → ∃ v', Blk w' T 22 #[v'] ∧ Lo w' n₀ v' (ts ++ z.ts))
/-- Boxes with addresses. -/
def Abx (n₀ T : Nat) (w : World) (Lp : List (Int × Nat)) : Prop := ∀ p ∈ Lp, U64 p.1 ∧ p.2 < n₀ ∧ p.2 ≠ T ∧ Blk w p.2 32 #[.int .u64 p.1]
theorem Abx.kr {n₀ T : Nat} {w w' : World} {Lp : List (Int × Nat)} (h : Abx n₀ T w Lp) (k : Kr w w') : Abx n₀ T w' Lp := fun p hp =>
  ⟨(h p hp).1, (h p hp).2.1, (h p hp).2.2.1, (h p hp).2.2.2.kr k (by simp)⟩
theorem Abx.kz {n₀ T : Nat} {w w' : World} {Lp : List (Int × Nat)} (h : Abx n₀ T w Lp) (k : Kz [T] n₀ w w') : Abx n₀ T w' Lp := fun p hp =>
  ⟨(h p hp).1, (h p hp).2.1, (h p hp).2.2.1, (h p hp).2.2.2.kzl k (by simpa using (h p hp).2.2.1) (h p hp).2.1⟩
theorem each_run (n₀ T : Nat) (s l x y : Int) (Φ : Rv → Int → World → Prop) (hTn : T < n₀) : ∀ (Lp : List (Int × Nat)) (m : Me) (a : Int) (P Q : Addr) (c d : Nat) (v : Value) (ts : List Int) (w : World),
    Sits w m P Q c d → m.wf → rgt s a l → l = m.n → Abx n₀ T w Lp → Blk w T 22 #[v] → Lo w n₀ v ts → n₀ ≤ w.heap.size → (∀ k, v.ownBlock = some k → k ≠ P.block ∧ k ≠ Q.block) → ts.length + Lp.length ≤ 1000 →
    (∀ r er w', EPhi n₀ T s l x y (eac s l (fsts Lp) m a) ts r er w' → Φ r er w') → RunR [T] n₀ Φ (cls T Lp) ⟨m.n, P, Q, c, d, s, a, l, x, y⟩ w
  | [], m, a, P, Q, c, d, v, ts, w, hm, hwf, hr, hl, hB, hT, hlo, hn, hap, hlen, hΦ => by
    intro w' k
    refine hΦ _ _ _ ⟨rfl, P, Q, c, d, rfl, hm.kr k, fun _ => ⟨v, hT.kr k (by simp), ?_⟩⟩
    rw [show (eac s l (fsts []) m a).ts = [] from rfl, List.append_nil]
    exact hlo.kr k
  | p :: Lp, m, a, P, Q, c, d, v, ts, w, hm, hwf, hr, hl, hB, hT, hlo, hn, hap, hlen, hΦ => by
    refine ⟨Try.call23, fun w0 k0 => ?_⟩
    rw [app2]
    obtain ⟨b1, b2, b3, b4⟩ := (hB.kr k0) p (by simp)
    simp only [List.length_cons] at hlen
    refine (each_c1 m s a l x y p.1 P Q c d n₀ p.2 T v ts w0 (hm.kr k0) b1 hwf hr hl b4 (hT.kr k0 (by simp)) (hlo.kr k0) hTn (Nat.le_trans hn k0.size) hap (by omega)).mono ?_
    rintro e w1 ⟨P', Q', c', d', v', rfl, S1, M1, K1, T1, L1, ap1⟩
    have kk := toa_la (A := p.1) hm.1 hwf hr hl
    obtain ⟨rg1, hl1⟩ := kk.rg hr hl
    refine ⟨⟨(toa m s a l p.1).m.n, P', Q', c', d', s, (toa m s a l p.1).a, l, x, y⟩, (toa m s a l p.1).e, rfl, K1, fun he w2 k2 => ?_, fun he => ?_⟩
    · refine hΦ _ _ _ ?_
      have e1 : eac s l (fsts (p :: Lp)) m a = ⟨m, a, [], (toa m s a l p.1).e⟩ := by
        show eac s l (p.1 :: fsts Lp) m a = _
        unfold eac
        rw [if_neg he]
      rw [e1]
      exact ⟨rfl, P, Q, c, d, rfl, M1.kr k2, fun q => absurd q he⟩
    · refine each_run n₀ T s l x y Φ hTn Lp _ _ P' Q' c' d' v' (ts ++ [(toa m s a l p.1).b]) w1 S1 kk.wf rg1 hl1 ?_ T1 L1 (Nat.le_trans (Nat.le_trans hn k0.size) K1.size) ap1 (by simp; omega) (fun r er w' h => hΦ _ _ _ ?_)
      · exact fun q hq => ((hB.kr k0).kz K1) q (by simp [hq])
      · have e1 : eac s l (fsts (p :: Lp)) m a = ⟨(eac s l (fsts Lp) (toa m s a l p.1).m (toa m s a l p.1).a).m, (eac s l (fsts Lp) (toa m s a l p.1).m (toa m s a l p.1).a).a, (toa m s a l p.1).b :: (eac s l (fsts Lp) (toa m s a l p.1).m (toa m s a l p.1).a).ts, (eac s l (fsts Lp) (toa m s a l p.1).m (toa m s a l p.1).a).e⟩ := by
          show eac s l (p.1 :: fsts Lp) m a = _
          conv => lhs; unfold eac
          rw [if_pos he]
        rw [e1]
        unfold EPhi at h ⊢
        simpa using h

/-! ### the row of closures -/
theorem own_is {w : World} {n₀ n size : Nat} {e : TypeId} {v : Value} {xs : List Value} (h : w.ownsRow n₀ e size v n xs) {k : Nat} (q : v.ownBlock = some k) : ∃ cur, Blk w k e cur := by
  rcases h.2 with ⟨rfl, _⟩ | ⟨g, cap, cur, rfl, _, hg, _⟩
  · cases q
  · cases q
    exact ⟨cur, hg⟩
/-- A block of another type stays, where a row of the call's own grows. -/
theorem Blk.grownT {w w' : World} {n₀ n size k : Nat} {e t : TypeId} {v : Value} {xs : List Value} {cs : Array Value} (h : Blk w k t cs) (ho : w.ownsRow n₀ e size v n xs) (hg : w.grownBy w' v.ownBlock) (hne : t ≠ e) : Blk w' k t cs :=
  h.grown hg (fun q => by
    obtain ⟨cur, hb⟩ := own_is ho q.symm
    have e2 := hb.symm.trans h
    simp at e2
    exact hne e2.2.symm)
/-- A row of closures of the call's own. -/
def Lf (w : World) (n₁ : Nat) (v : Value) (cs : List Clo) : Prop := w.ownsRow n₁ 59 1 v cs.length (cs.map fnv)
theorem Lf.nil (w : World) (n₁ : Nat) : Lf w n₁ (.slice none 0 0) [] := World.ownsRow_nil _ _ _ _
theorem info_fn : (Try.prog.info? 59).map (fun i => (i.zero, i.size, i.bytes)) = some (some .nilFunc, 1, 8) := by kernel_rfl
theorem wpList_ownf {w : World} {ops : Array Oper} {rest : List Oper} {o : Oper} {a : Act} {Q : Exit → Act → World → Prop} (hgd : o.guard = none) (s x : Operand)
    (ho : o.op = .call { callee := .builtin .append, args := #[s, x], argTypes := #[58, 58] })
    (n₁ : Nat) (v : Value) (cs : List Clo) (hs : a.eval s = v) (hx : Lf w n₁ v cs) (G : Nat) (z : Clo) (hy : a.eval x = .slice (some ⟨G, 0, none⟩) 1 1) (hyr : w.cell? ⟨G, 0, none⟩ = some (fnv z)) (hb : cs.length ≤ 100000) (hbase : n₁ ≤ w.heap.size)
    (h : ∀ g cap w', Lf w' n₁ (.slice (some ⟨g, 0, none⟩) (cs.length + 1) cap) (cs ++ [z]) → w.grownBy w' v.ownBlock → wpList Try.prog ops Q rest (a.put o.dst (.slice (some ⟨g, 0, none⟩) (cs.length + 1) cap)) w') : wpList Try.prog ops Q (o :: rest) a w := by
  obtain ⟨i0, hi, hz0, hz1, hz2⟩ := info_parts info_fn
  refine wpList_append_lies w hgd s x _ ho n₁ 59 i0 .nilFunc 1 8 Try.underlying58 hi hz0 hz1 hz2 rfl (by decide) v _ (cs.map fnv) hs hx ⟨G, 0, none⟩ 1 1 [fnv z] hy rfl ?_ ?_ (by decide) (by unfold maxLen; omega) (by omega) hbase w.heap.size rfl ?_
  · intro j u hj
    cases j with
    | zero =>
      simp at hj
      subst hj
      rw [add_zero']
      exact hyr
    | succ j => simp at hj
  · intro u hu
    simp at hu
    subst hu
    rfl
  · intro g cap w' h1 h2 h3 _
    refine h g cap w' ?_ h2
    unfold Lf
    rw [List.length_append, List.map_append]
    exact h1
/-- What stands in a row of the call's own, done one after the other. -/
theorem rdo_own (T n₁ : Nat) (Φ : Rv → Int → World → Prop) (cs : List Clo) (v : Value) (r : Rv) (w : World) (hl : cs.length ≤ 1000) (hv : Lf w n₁ v cs) {tv : Value} (hT : Blk w T 22 #[tv]) (hr : RunR [T] w.heap.size Φ cs r w) :
    Calls Try.prog 24 #[v, r.v] w (RunRPost [T] Φ w) := by
  obtain ⟨_, hc⟩ := hv
  rcases hc with ⟨rfl, h0⟩ | ⟨g, cap, cur, rfl, hb, hg, h1, h2, h3, h4⟩
  · obtain rfl : cs = [] := List.eq_nil_of_length_eq_zero h0
    exact rdo_nil [T] w.heap.size Φ r w hr
  · refine rdo_any [T] Φ cs g cap r w hl h1 ?_ (by simpa using hT.lt) ⟨cur, hg, ?_⟩ hr
    · intro q
      obtain rfl : g = T := by simpa using q
      have e2 := hT.symm.trans hg
      simp at e2
    · rw [← h4]
      simp
theorem Lo.sl {w : World} {n₀ : Nat} {v : Value} {xs : List Int} (h : Lo w n₀ v xs) : ∃ A cap, v = .slice A xs.length cap ∧ xs.length ≤ cap ∧ cap ≤ maxLen ∧ Rd w A xs.length xs := by
  obtain ⟨hl, hc⟩ := h
  rcases hc with ⟨rfl, h0⟩ | ⟨g, cap, cur, rfl, hb, hg, h1, h2, h3, h4⟩
  · obtain rfl : xs = [] := List.eq_nil_of_length_eq_zero h0
    exact ⟨none, 0, rfl, Nat.le_refl _, Nat.zero_le _, rfl, fun q => absurd q (by simp)⟩
  · refine ⟨_, _, rfl, h1, h2, rfl, fun q => ⟨_, rfl, ?_, fun j x hx => ?_⟩⟩
    · exact (Array.getElem?_eq_some_iff.1 hg).1
    · rw [add_zero', cell_of_row w g j cur _ (0, 0) hg]
      have hj : (wds xs)[j]? = some (.int .u64 x) := by simp [wds, hx, wd]
      rw [← h4, List.getElem?_take] at hj
      have hlt : j < xs.length := by
        rcases Nat.lt_or_ge j xs.length with q | q
        · exact q
        · rw [List.getElem?_eq_none q] at hx; cases hx
      rw [if_pos (by omega)] at hj
      simpa using hj

theorem Lo.rd {w : World} {n₀ : Nat} {A : Option Addr} {k cap : Nat} {xs : List Int} (h : Lo w n₀ (.slice A k cap) xs) : Rd w A k xs := by
  obtain ⟨A', cap', e, _, _, hr⟩ := h.sl
  cases e
  exact hr
theorem Lo.ne_blk {w : World} {n₀ k : Nat} {v : Value} {xs : List Int} {t : TypeId} {cs : Array Value} (h : Lo w n₀ v xs) (hb : Blk w k t cs) (ht : t ≠ 32) : v.ownBlock ≠ some k := fun e => by
  obtain ⟨cur, hc⟩ := h.blk e
  have e2 := hc.symm.trans hb
  simp at e2
  exact ht e2.2.symm
theorem gen_code {P : Program} {C : Code} {Q : Exit → Act → World → Prop} {a : Act} {Y : World → Prop} {X : World} (y : Y X) (h : ∀ W, Y W → C.wp P Q a W) : C.wp P Q a X := h X y

/-! ### Each -/
/-- What comes: a room, a row of words, an error. -/
def EaPost (w : World) (s l x y : Int) (z : Ea) (e : Ending) (w' : World) : Prop :=
  ∃ (P' Q' : Addr) (c' d' : Nat) (A : Option Addr) (n cap : Nat), e = .returned (.tuple #[rov z.m.n (sl P' z.m.n c') (sl Q' z.m.n d') s z.a l x y, .slice A n cap, .int .i64 z.e]) ∧ Sits w' z.m P' Q' c' d' ∧ Up w w' ∧ (z.e = 0 → Rd w' A n z.ts) ∧ (z.e ≠ 0 → A = none ∧ n = 0 ∧ cap = 0)
def ElRel (w : World) (ks : Array Value) (L : List Int) (u7 i : Value) (wr : World) : Prop :=
  ∃ (j : Nat) (Lp : List (Int × Nat)), j ≤ L.length ∧ i = .int .i64 j ∧ fsts Lp = L.take j ∧ Lf wr w.heap.size u7 (cls (w.heap.size + 1 + 1) Lp)
    ∧ (∀ p ∈ Lp, p.2 ≠ w.heap.size + 1 + 1 ∧ Blk wr p.2 32 #[.int .u64 p.1]) ∧ Up w wr ∧ Blk wr w.heap.size 31 ks ∧ Blk wr (w.heap.size + 1) 31 zr ∧ Blk wr (w.heap.size + 1 + 1) 22 #[.slice none 0 0]
theorem cls_app (T : Nat) (Lp : List (Int × Nat)) (p : Int × Nat) : cls T (Lp ++ [p]) = cls T Lp ++ [(23, #[bx p.2, bx T])] := by simp [cls]
theorem cls_len (T : Nat) (Lp : List (Int × Nat)) : (cls T Lp).length = Lp.length := by simp [cls]
theorem fsts_app (Lp : List (Int × Nat)) (p : Int × Nat) : fsts (Lp ++ [p]) = fsts Lp ++ [p.1] := by simp [fsts]
theorem fsts_len (Lp : List (Int × Nat)) : (fsts Lp).length = Lp.length := by simp [fsts]

set_option maxRecDepth 100000 in
set_option maxHeartbeats 4000000 in
theorem each_any (m : Me) (s a l x y : Int) (P Q : Addr) (c d : Nat) (A : Option Addr) (n cap : Nat) (L : List Int) (w : World) (hm : Sits w m P Q c d) (hwf : m.wf) (hr : rgt s a l) (hl : l = m.n) (hL : Rd w A n L) (hU : ∀ B ∈ L, U64 B) (hn : n ≤ 1000) :
    Calls Try.prog 12 #[rov m.n (sl P m.n c) (sl Q m.n d) s a l x y, .slice A n cap] w (EaPost w s l x y (eac s l L m a)) := by
  obtain rfl : L.length = n := hL.1
  have HRun := Lib.hid (fun (W : World) (Lp : List (Int × Nat)) (T : Nat) (v : Value) (hW : Up w W) (hTn : T < W.heap.size) => each_run W.heap.size T s l x y (EPhi W.heap.size T s l x y (eac s l (fsts Lp) m a) []) hTn Lp m a P Q c d v [] W (hm.up hW) hwf hr hl)
  have HX := Lib.hid hL
  have HU := Lib.hid hU
  have HM := Lib.hid hm
  generalize hzz : eac s l L m a = z
  have HZ := Lib.hid hzz
  clear hm hwf hr hl hL hU hzz
  go_enter Try.func12, Try.ntmps12
  go_wp2
  have X0 : Blk (((w.alloc (.cells (roc m.n (sl P m.n c) (sl Q m.n d) s a l x y) 31)).alloc (.cells zr 31)).alloc (.cells #[.slice none 0 0] 22)) w.heap.size 31 (roc m.n (sl P m.n c) (sl Q m.n d) s a l x y) := ((Blk.new' w rfl _ _).alloc _).alloc _
  have Z0 : Blk (((w.alloc (.cells (roc m.n (sl P m.n c) (sl Q m.n d) s a l x y) 31)).alloc (.cells zr 31)).alloc (.cells #[.slice none 0 0] 22)) (w.heap.size + 1) 31 zr := (Blk.new' _ (by simp) _ _).alloc _
  have T0 : Blk (((w.alloc (.cells (roc m.n (sl P m.n c) (sl Q m.n d) s a l x y) 31)).alloc (.cells zr 31)).alloc (.cells #[.slice none 0 0] 22)) (w.heap.size + 1 + 1) 22 #[.slice none 0 0] := Blk.new' _ (by simp) _ _
  have U0 : Up w (((w.alloc (.cells (roc m.n (sl P m.n c) (sl Q m.n d) s a l x y) 31)).alloc (.cells zr 31)).alloc (.cells #[.slice none 0 0] 22)) := (((Up.refl w).alloc _).alloc _).alloc _
  generalize (((w.alloc (.cells (roc m.n (sl P m.n c) (sl Q m.n d) s a l x y) 31)).alloc (.cells zr 31)).alloc (.cells #[.slice none 0 0] 22)) = W0 at X0 Z0 T0 U0 ⊢
  go_loopw [7, 14] (fun u7 i wr => ElRel w (roc m.n (sl P m.n c) (sl Q m.n d) s a l x y) L u7 i wr) (fun _ i _ => L.length - (intOf i).toNat)
  case atStart => exact ⟨0, [], Nat.zero_le _, rfl, rfl, Lf.nil _ _, by simp, U0, X0, Z0, T0⟩
  case round =>
    obtain ⟨j, Lp, hj, rfl, hf, hlf, hbx, U, X, Z, T⟩ := hrel
    have HF := Lib.hid hf
    have HLF := Lib.hid hlf
    have HBX := Lib.hid hbx
    have hpl : Lp.length = j := by rw [← fsts_len, hf]; simp; omega
    clear hf hlf hbx X0 Z0 T0 U0
    by_cases hlt : j < L.length
    · obtain ⟨p, rfl, hcp⟩ := (HX.out.up U).at_ hlt
      have HTK : Hid (fsts Lp ++ [L.getD j 0] = L.take (j + 1)) := Lib.hid (by rw [HF.out, List.take_add_one, show L.getD j 0 = L[j] from by simp [List.getD, List.getElem?_eq_getElem hlt]]; simp [List.getElem?_eq_getElem hlt])
      have hAU : U64 (L.getD j 0) := HU.out _ (by rw [show L.getD j 0 = L[j] from by simp [List.getD, List.getElem?_eq_getElem hlt]]; exact List.getElem_mem hlt)
      generalize L.getD j 0 = B at hcp HTK hAU
      go_wp2_with (with_reducible refine halt_at (o := ⟨some 21, _, _, _, _, _⟩) ?_)
      unfold Halt
      refine wpl_at (fun W hW => ?_)
      have hW1 : Up wr W := by rw [hW]; exact ((Up.refl _).alloc _).alloc _
      have B2 : Blk W wr.heap.size 32 #[.int .u64 B] := by rw [hW]; exact (Blk.new' wr rfl _ _).alloc _
      have C2 : Blk W (wr.heap.size + 1) 59 #[fnv (23, #[bx wr.heap.size, bx (w.heap.size + 1 + 1)])] := by rw [hW]; exact Blk.new' _ (by simp) _ _
      have LF2 : Lf W w.heap.size u7 (cls (w.heap.size + 1 + 1) Lp) := by rw [hW]; exact World.ownsRow.alloc (World.ownsRow.alloc HLF.out _) _
      have hTl := T.lt
      clear hW
      refine wpList_ownf rfl _ _ rfl w.heap.size u7 (cls (w.heap.size + 1 + 1) Lp) rfl LF2 (wr.heap.size + 1) (23, #[bx wr.heap.size, bx (w.heap.size + 1 + 1)]) rfl (C2.cell 0) (by rw [cls_len]; omega) (U.trans hW1).size ?_
      intro g cap4 w4 L4 g4
      go_wp2
      refine ⟨⟨j + 1, Lp ++ [(B, wr.heap.size)], by omega, by go_num, by rw [fsts_app]; exact HTK.out, by rw [cls_app]; exact L4, ?_, (U.trans hW1).grown g4 (fun k e => (World.ownsRow.lt LF2 k e).1), (X.up hW1).grownT LF2 g4 (by decide), (Z.up hW1).grownT LF2 g4 (by decide), (T.up hW1).grownT LF2 g4 (by decide)⟩, by simp [intOf]; omega⟩
      intro q hq
      rcases List.mem_append.1 hq with hq | hq
      · exact ⟨(HBX.out q hq).1, ((HBX.out q hq).2.up hW1).grownT LF2 g4 (by decide)⟩
      · obtain rfl : q = (B, wr.heap.size) := by simpa using hq
        exact ⟨by simp only; omega, B2.grownT LF2 g4 (by decide)⟩
    · obtain rfl : j = L.length := by omega
      have hF : fsts Lp = L := by rw [HF.out, List.take_length]
      have hz : eac s l (fsts Lp) m a = z := by rw [hF]; exact HZ.out
      have hrun := HRun.out wr Lp (w.heap.size + 1 + 1) (.slice none 0 0) U T.lt (fun q hq => ⟨HU.out _ (by rw [← hF]; exact List.mem_map_of_mem hq), (HBX.out q hq).2.lt, (HBX.out q hq).1, (HBX.out q hq).2⟩) T (Lo.nil _ _) (Nat.le_refl _) (by intro k e; cases e) (by simp; omega) (fun _ _ _ h => h)
      rw [hz] at hrun
      have hdo := Lib.hid (rdo_own (w.heap.size + 1 + 1) w.heap.size _ (cls (w.heap.size + 1 + 1) Lp) u7 ⟨m.n, P, Q, c, d, s, a, l, x, y⟩ wr (by rw [cls_len]; omega) HLF.out T hrun)
      have Xc := X.cell
      simp only [roc] at Xc
      clear hrun hF hz HF HBX HLF HRun HX HU HZ HM
      go_wp2_with (fail)
      refine hdo.out.mono ?_
      rintro e w5 ⟨r, er, rfl, k5, rfl, P', Q', c', d', rfl, sz, hts⟩
      obtain ⟨K, a', ts, er⟩ := z
      have X5 := X.kp k5 (by simp <;> omega)
      have Z5 := Z.kp k5 (by simp <;> omega)
      have U5 := U.kp k5 (by simp; omega)
      clear hdo X Z T U k5 Xc
      simp only [] at sz hts
      have X5c := X5.cell
      have X5f := X5.frozen
      have X5l := X5.lt
      have i1 : ¬ w.heap.size + 1 = w.heap.size := by omega
      have i2 : ¬ w.heap.size = w.heap.size + 1 := by omega
      simp only [roc] at X5c
      simp only [Rv.v]
      by_cases he : er = 0
      · subst he
        obtain ⟨v', T5, L5⟩ := hts rfl
        rw [List.nil_append] at L5
        clear hts
        obtain ⟨A', cap', rfl, _, _, _⟩ := L5.sl
        have i3 : ¬ w.heap.size + 1 + 1 = w.heap.size := by omega
        go_wp2_with (fail)
        refine gen_code (Y := fun W => Blk W w.heap.size 31 (roc K.n (sl P' K.n c') (sl Q' K.n d') s a' l x y) ∧ Blk W (w.heap.size + 1) 31 zr ∧ Blk W (w.heap.size + 1 + 1) 22 #[.slice A' ts.length cap'] ∧ Sits W K P' Q' c' d' ∧ Up w W ∧ Lo W wr.heap.size (.slice A' ts.length cap') ts)
          ⟨X5.set8 _ _ _ _ _ _ _ _, Z5.far8 i1 _ _ _ _ _ _ _ _, T5.far8 i3 _ _ _ _ _ _ _ _, sz.far8 X5 _ _ _ _ _ _ _ _, U5.set8 (Nat.le_refl _) _ _ _ _ _ _ _ _, L5.set8 (L5.ne_blk X5 (by decide)) _ _ _ _ _ _ _ _⟩ ?_
        rintro W ⟨X6, Z6, T6, S6, U6, L6⟩
        clear X5 Z5 T5 sz U5 L5 X5c X5f X5l
        have hwZ : w.heap.size ≤ w.heap.size + 1 := by omega
        have i4 : ¬ w.heap.size + 1 + 1 = w.heap.size + 1 := by omega
        generalize w.heap.size + 1 + 1 = gT at T6 i4 ⊢
        generalize w.heap.size + 1 = gZ at Z6 i2 i4 hwZ ⊢
        generalize hgX : w.heap.size = gX at X6 i2 hwZ ⊢
        clear i1 i3
        have X6c := X6.cell
        have T6c := T6.cell
        have Z6c := Z6.cell
        have Z6f := Z6.frozen
        have Z6l := Z6.lt
        simp only [roc, zr] at X6c Z6c
        go_region_held3 (fun w' => (∀ i, w'.cell? ⟨gX, i, none⟩ = (#[.int .i64 K.n, .slice (some P') K.n c', .slice (some Q') K.n d', .int .i64 s, .int .i64 a', .int .i64 l, .int .i64 x, .int .i64 y] : Array Value)[i]?) ∧ (∀ i, w'.cell? ⟨gT, i, none⟩ = (#[.slice A' ts.length cap'] : Array Value)[i]?))
          (first
            | with_reducible exact ⟨fun i => X6.drew.cell i, fun i => T6.drew.cell i⟩
            | with_reducible exact ⟨fun i => (X6.far8 i2 _ _ _ _ _ _ _ _).drew.cell i, fun i => (T6.far8 i4 _ _ _ _ _ _ _ _).drew.cell i⟩)
          (fail)
        all_goals
          go_wp2_with (fail)
          refine bodyPost_ret (ret_room3 rfl _ _ _ K.n s a' l x y (sl P' K.n c') (sl Q' K.n d') _ _ rfl (Z6.set8 _ _ _ _ _ _ _ _).drew rfl rfl) rfl ?_
          exact ⟨P', Q', c', d', A', ts.length, cap', rfl, (S6.far8 Z6 _ _ _ _ _ _ _ _).up (Up.refl _).drew, (U6.set8 (by omega) _ _ _ _ _ _ _ _).drew, fun _ => ((L6.set8 (L6.ne_blk Z6 (by decide)) _ _ _ _ _ _ _ _).up (Up.refl _).drew).rd, fun q => absurd rfl q⟩
      · have hb : (er != 0) = true := bne_iff_ne.mpr he
        have HE := Lib.hid he
        clear hts he
        have Z5c := Z5.cell
        have Z5f := Z5.frozen
        have Z5l := Z5.lt
        simp only [zr] at Z5c
        go_wp2_with (fail)
        refine bodyPost_ret (ret_room3 rfl _ _ _ K.n s a' l x y (sl P' K.n c') (sl Q' K.n d') _ _ rfl ((Z5.far8 i1 _ _ _ _ _ _ _ _).set8 _ _ _ _ _ _ _ _) rfl rfl) rfl ?_
        exact ⟨P', Q', c', d', none, 0, 0, rfl, (sz.far8 X5 _ _ _ _ _ _ _ _).far8 (Z5.far8 i1 _ _ _ _ _ _ _ _) _ _ _ _ _ _ _ _, (U5.set8 (Nat.le_refl _) _ _ _ _ _ _ _ _).set8 (by omega) _ _ _ _ _ _ _ _, fun q => absurd q HE.out, fun _ => ⟨rfl, rfl, rfl⟩⟩
end Go.Proofs.Ytmjjgaldbnhdfaa
