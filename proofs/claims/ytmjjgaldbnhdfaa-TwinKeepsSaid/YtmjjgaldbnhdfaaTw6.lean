/- One of some twins (the closure of twin.Each): contract; a row of words of the call's own that takes one more. -/
import Derived.Test.YtmjjgaldbnhdfaaTw5
namespace Go.Proofs.Ytmjjgaldbnhdfaa
open Go.ChangeShapes Go.WideShapes Go.ChangeAt Go.RowKit
set_option linter.unusedVariables false
set_option linter.unusedSimpArgs false

theorem wpl_at {P : Program} {ops : Array Oper} {Q : Exit → Act → World → Prop} {rest : List Oper} {a : Act} {w : World} (h : ∀ W, W = w → wpList P ops Q rest a W) : wpList P ops Q rest a w := h w rfl
/-- A row of the call's own: words. -/
def Lo (w : World) (n₀ : Nat) (v : Value) (xs : List Int) : Prop := w.ownsRow n₀ 32 1 v xs.length (wds xs)
theorem Lo.nil (w : World) (n₀ : Nat) : Lo w n₀ (.slice none 0 0) [] := World.ownsRow_nil _ _ _ _
theorem Lo.lt {w : World} {n₀ : Nat} {v : Value} {xs : List Int} (h : Lo w n₀ v xs) {k : Nat} (e : v.ownBlock = some k) : n₀ ≤ k ∧ k < w.heap.size := World.ownsRow.lt h k e
/-- The block that it lies in. -/
theorem Lo.blk {w : World} {n₀ : Nat} {v : Value} {xs : List Int} (h : Lo w n₀ v xs) {k : Nat} (e : v.ownBlock = some k) : ∃ cur, Blk w k 32 cur := by
  rcases h.2 with ⟨rfl, _⟩ | ⟨g, cap, cur, rfl, _, hg, _⟩
  · cases e
  · cases e
    exact ⟨cur, hg⟩
theorem Lo.same {w w' : World} {n₀ : Nat} {v : Value} {xs : List Int} (h : Lo w n₀ v xs) (k : ∀ g, v.ownBlock = some g → w'.heap[g]? = w.heap[g]?) : Lo w' n₀ v xs := by
  obtain ⟨hl, hc⟩ := h
  rcases hc with ⟨rfl, h0⟩ | ⟨g, cap, cur, rfl, hb, hg, h1, h2, h3, h4⟩
  · exact ⟨hl, .inl ⟨rfl, h0⟩⟩
  · exact ⟨hl, .inr ⟨g, cap, cur, rfl, hb, (k g rfl).trans hg, h1, h2, h3, h4⟩⟩
theorem Lo.up {w w' : World} {n₀ : Nat} {v : Value} {xs : List Int} (h : Lo w n₀ v xs) (k : Up w w') : Lo w' n₀ v xs := h.same fun g e => k.block g (h.lt e).2
theorem Lo.kr {w w' : World} {n₀ : Nat} {v : Value} {xs : List Int} (h : Lo w n₀ v xs) (k : Kr w w') : Lo w' n₀ v xs := h.same fun g e => by
  obtain ⟨cur, hb⟩ := h.blk e
  refine k.block g (h.lt e).2 (fun ⟨cs, _, q⟩ => ?_)
  have e2 := hb.symm.trans q
  simp at e2
theorem Lo.set_ {w : World} {n₀ : Nat} {v : Value} {xs : List Int} (h : Lo w n₀ v xs) {B i : Nat} (hB : v.ownBlock ≠ some B) (u : Value) : Lo (w.setCell ⟨B, i, none⟩ u) n₀ v xs :=
  h.same fun g e => Below.heap_setCell w ⟨B, i, none⟩ u g (fun q => hB (by rw [e]; exact congrArg some q))
theorem Lo.set8 {w : World} {n₀ : Nat} {v : Value} {xs : List Int} (h : Lo w n₀ v xs) {g : Nat} (hg : v.ownBlock ≠ some g) (u0 u1 u2 u3 u4 u5 u6 u7 : Value) :
    Lo ((((((((w.setCell ⟨g, 0, none⟩ u0).setCell ⟨g, 1, none⟩ u1).setCell ⟨g, 2, none⟩ u2).setCell ⟨g, 3, none⟩ u3).setCell ⟨g, 4, none⟩ u4).setCell ⟨g, 5, none⟩ u5).setCell ⟨g, 6, none⟩ u6).setCell ⟨g, 7, none⟩ u7) n₀ v xs :=
  (((((((h.set_ hg u0).set_ hg u1).set_ hg u2).set_ hg u3).set_ hg u4).set_ hg u5).set_ hg u6).set_ hg u7
theorem Row.grown {w w' : World} {p : Addr} {xs : List Int} {row : Option Nat} (h : Row w p xs) (k : w.grownBy w' row) (hp : some p.block ≠ row) : Row w' p xs := by
  refine ⟨Nat.lt_of_lt_of_le h.1 k.size, fun j x hx => ?_⟩
  have e := h.2 j x hx
  unfold World.cell? at e ⊢
  rw [block_of_add] at e ⊢
  rw [k.block p.block h.1 hp]
  exact e
theorem Sits.grown {w w' : World} {m : Me} {p q : Addr} {c d : Nat} {row : Option Nat} (h : Sits w m p q c d) (k : w.grownBy w' row) (hp : some p.block ≠ row) (hq : some q.block ≠ row) : Sits w' m p q c d :=
  ⟨h.1, h.2.1, h.2.2.1, h.2.2.2.1, h.2.2.2.2.1, h.2.2.2.2.2.1.grown k hp, h.2.2.2.2.2.2.grown k hq⟩
theorem Kz.grown {S : List Nat} {n₀ : Nat} {a b c : World} {v : Value} {xs : List Int} (h : Kz S n₀ a b) (hx : Lo a n₀ v xs) (hg : b.grownBy c v.ownBlock) : Kz S n₀ a c :=
  ⟨hg.os.trans h.os, hg.tape.trans h.tape, hg.output.trans h.output, Nat.le_trans h.size hg.size, fun k hk hS hr => by
    refine (hg.block k (Nat.lt_of_lt_of_le hk h.size) (fun e => ?_)).trans (h.block k hk hS hr)
    rcases hr with hr | ⟨cs, _, hr⟩
    · have := (hx.lt e.symm).1
      omega
    · obtain ⟨cur, hb⟩ := hx.blk e.symm
      have e2 := hb.symm.trans hr
      simp at e2⟩
theorem Kz.set_ {S : List Nat} {n : Nat} {a b : World} (h : Kz S n a b) {g i : Nat} (hg : g ∈ S) (u : Value) : Kz S n a (b.setCell ⟨g, i, none⟩ u) :=
  ⟨h.os, h.tape, h.output, by simpa [World.setCell] using h.size, fun k hk hS hr => (Below.heap_setCell b ⟨g, i, none⟩ u k (fun e => hS (by rw [e]; exact hg))).trans (h.block k hk hS hr)⟩
theorem wds_app (xs ys : List Int) : wds (xs ++ ys) = wds xs ++ wds ys := by simp [wds]

/-- A row of the call's own takes a word more. -/
theorem wpList_ownl {w : World} {ops : Array Oper} {rest : List Oper} {o : Oper} {a : Act} {Q : Exit → Act → World → Prop} (hgd : o.guard = none) (s x : Operand)
    (ho : o.op = .call { callee := .builtin .append, args := #[s, x], argTypes := #[22, 22] })
    (n₀ : Nat) (v : Value) (xs : List Int) (hs : a.eval s = v) (hx : Lo w n₀ v xs) (p : Addr) (z : Int) (hy : a.eval x = .slice (some p) 1 1) (hyr : Row w p [z]) (hb : xs.length ≤ 100000) (hbase : n₀ ≤ w.heap.size)
    (h : ∀ g cap w', Lo w' n₀ (.slice (some ⟨g, 0, none⟩) (xs.length + 1) cap) (xs ++ [z]) → w.grownBy w' v.ownBlock → (v.ownBlock = some g ∨ g = w.heap.size) → wpList Try.prog ops Q rest (a.put o.dst (.slice (some ⟨g, 0, none⟩) (xs.length + 1) cap)) w') : wpList Try.prog ops Q (o :: rest) a w := by
  obtain ⟨i0, hi, hz0, hz1, hz2⟩ := info_parts info_u64
  refine wpList_append_lies w hgd s x _ ho n₀ 32 i0 (.int .u64 0) 1 8 Try.underlying22 hi hz0 hz1 hz2 rfl (by decide) v _ (wds xs) hs hx p 1 1 (wds [z]) hy rfl hyr.src (one_wds [z]) (by decide) (by unfold maxLen; omega) (by omega) hbase w.heap.size rfl ?_
  intro g cap w' h1 h2 h3 _
  refine h g cap w' ?_ h2 h3
  unfold Lo
  rw [List.length_append, wds_app]
  exact h1

/-- What the closure leaves. -/
def E1Post (w : World) (n₀ T : Nat) (m : Me) (P Q : Addr) (c d : Nat) (K : Me) (s a' l x y b er : Int) (ts : List Int) (e : Ending) (w' : World) : Prop :=
  ∃ (P' Q' : Addr) (c' d' : Nat) (v' : Value), e = .returned (.tuple #[rov K.n (sl P' K.n c') (sl Q' K.n d') s a' l x y, .int .i64 er]) ∧ Sits w' K P' Q' c' d' ∧ Sits w' m P Q c d ∧ Kz [T] n₀ w w' ∧ Blk w' T 22 #[v'] ∧ Lo w' n₀ v' (ts ++ [b]) ∧ ∀ k, v'.ownBlock = some k → k ≠ P'.block ∧ k ≠ Q'.block

set_option maxRecDepth 100000 in
set_option maxHeartbeats 4000000 in
theorem each_c1 (m : Me) (s a l x y A : Int) (P Q : Addr) (c d n₀ Bi T : Nat) (v : Value) (ts : List Int) (w : World) (hm : Sits w m P Q c d) (hA : U64 A) (hwf : m.wf) (hr : rgt s a l) (hl : l = m.n)
    (hBi : Blk w Bi 32 #[.int .u64 A]) (hT : Blk w T 22 #[v]) (hlo : Lo w n₀ v ts) (hTn : T < n₀) (hn : n₀ ≤ w.heap.size) (hap : ∀ k, v.ownBlock = some k → k ≠ P.block ∧ k ≠ Q.block) (hts : ts.length ≤ 1000) :
    Calls Try.prog 23 #[rov m.n (sl P m.n c) (sl Q m.n d) s a l x y, bx Bi, bx T] w (E1Post w n₀ T m P Q c d (toa m s a l A).m s (toa m s a l A).a l x y (toa m s a l A).b (toa m s a l A).e ts) := by
  have ht := Lib.hid (fun (W : World) (U : Up w W) => to_any m s a l x y A P Q c d W (hm.up U) hA hwf hr hl)
  generalize (toa m s a l A).m = K at ht ⊢
  generalize (toa m s a l A).a = a' at ht ⊢
  generalize (toa m s a l A).b = b at ht ⊢
  generalize (toa m s a l A).e = er at ht ⊢
  have HM := Lib.hid hm
  have HL := Lib.hid hlo
  have HAP := Lib.hid hap
  have hTl : T < w.heap.size := by omega
  have hBic := hBi.cell
  have hBil := hBi.lt
  clear hm hA hwf hr hl hlo hap
  go_enter Try.func23, Try.ntmps23
  go_wp2_with (fail)
  refine calls_at (fun V hV => ?_)
  have U0 : Up w V := by rw [hV]; exact ((Up.refl _).alloc _).alloc _
  have X0 : Blk V w.heap.size 31 (roc m.n (sl P m.n c) (sl Q m.n d) s a l x y) := by rw [hV]; exact (Blk.new' w rfl _ _).alloc _
  have Z0 : Blk V (w.heap.size + 1) 31 zr := by rw [hV]; exact Blk.new' _ (by simp) _ _
  clear hV
  refine (ht.out V U0).mono ?_
  rintro e w1 ⟨P', Q', c', d', rfl, sz, h1, hF⟩
  have U1 := U0.trans h1
  have X1 := X0.up h1
  have Z1 := Z0.up h1
  have T1 := hT.up U1
  have hFr : (P' = P ∧ Q' = Q) ∨ Fr w P' Q' := hF.imp id (fun q => q.up U0.size)
  clear h1 X0 Z0 U0 ht hF
  have X1c := X1.cell
  have X1f := X1.frozen
  have X1l := X1.lt
  have T1c := T1.cell
  have i1 : ¬ T = w.heap.size := by omega
  have i2 : ¬ w.heap.size = T := by omega
  simp only [roc] at X1c
  go_wp2_with (with_reducible refine halt_at (o := ⟨some 18, _, _, _, _, _⟩) ?_)
  unfold Halt
  refine wpl_at (fun W hW => ?_)
  have nX : v.ownBlock ≠ some w.heap.size := fun e => by have := (HL.out.lt e).2; omega
  have nZ : v.ownBlock ≠ some (w.heap.size + 1) := fun e => by have := (HL.out.lt e).2; omega
  have nT : v.ownBlock ≠ some T := fun e => by have := (HL.out.lt e).1; omega
  have X2 : Blk W w.heap.size 31 (roc K.n (sl P' K.n c') (sl Q' K.n d') s a' l x y) := by rw [hW]; exact (X1.set8 _ _ _ _ _ _ _ _).alloc _
  have Z2 : Blk W (w.heap.size + 1) 31 zr := by rw [hW]; exact (Z1.far8 (by omega) _ _ _ _ _ _ _ _).alloc _
  have T2 : Blk W T 22 #[v] := by rw [hW]; exact (T1.far8 i1 _ _ _ _ _ _ _ _).alloc _
  have S2 : Sits W K P' Q' c' d' := by rw [hW]; exact (sz.far8 X1 _ _ _ _ _ _ _ _).up ((Up.refl _).alloc _)
  have M2 : Sits W m P Q c d := by rw [hW]; exact ((HM.out.up U1).far8 X1 _ _ _ _ _ _ _ _).up ((Up.refl _).alloc _)
  have L2 : Lo W n₀ v ts := by rw [hW]; exact ((HL.out.up U1).set8 nX _ _ _ _ _ _ _ _).up ((Up.refl _).alloc _)
  have K2 : Kz [T] n₀ w W := by rw [hW]; exact ((Kz.of_up U1).own8 (Nat.le_refl _) _ _ _ _ _ _ _ _).up ((Up.refl _).alloc _)
  have R2 : Row W ⟨w1.heap.size, 0, none⟩ [b] := by rw [hW]; exact row_of_blk (t := 32) (Blk.new' _ (by simp [World.setCell]) _ _)
  have hWs := K2.size
  clear hW X1 Z1 T1 X1c X1f X1l T1c U1 sz
  refine wpList_ownl rfl _ _ rfl n₀ v ts rfl L2 ⟨w1.heap.size, 0, none⟩ b rfl R2 (by omega) (by omega) ?_
  intro g cap w4 L4 g4 hloc
  have nP : some P'.block ≠ v.ownBlock ∧ some Q'.block ≠ v.ownBlock := by
    rcases hFr with ⟨rfl, rfl⟩ | ⟨f1, f2⟩
    · exact ⟨fun e => (HAP.out _ e.symm).1 rfl, fun e => (HAP.out _ e.symm).2 rfl⟩
    · exact ⟨fun e => by have := (HL.out.lt e.symm).2; omega, fun e => by have := (HL.out.lt e.symm).2; omega⟩
  have hap4 : g ≠ P'.block ∧ g ≠ Q'.block := by
    rcases hloc with e | e
    · exact ⟨fun q => nP.1 (by rw [e, q]), fun q => nP.2 (by rw [e, q])⟩
    · have h1 := S2.2.2.2.2.2.1.1
      have h2 := S2.2.2.2.2.2.2.1
      exact ⟨by omega, by omega⟩
  have X4 := X2.grown g4 (Ne.symm nX)
  have Z4 := Z2.grown g4 (Ne.symm nZ)
  have T4 := T2.grown g4 (Ne.symm nT)
  have S4 := S2.grown g4 nP.1 nP.2
  have M4 := M2.grown g4 (fun e => (HAP.out _ e.symm).1 rfl) (fun e => (HAP.out _ e.symm).2 rfl)
  have K4 := K2.grown HL.out g4
  have nT4 : (Value.slice (some ⟨g, 0, none⟩) (ts.length + 1) cap).ownBlock ≠ some T := fun e => by have := (L4.lt e).1; omega
  have nZ4 : g ≠ w.heap.size + 1 := fun e => by
    rcases hloc with q | q
    · exact nZ (by rw [q, e])
    · have := Z2.lt; omega
  have nZ5 : (Value.slice (some ⟨g, 0, none⟩) (ts.length + 1) cap).ownBlock ≠ some (w.heap.size + 1) := fun e => nZ4 (by cases e; rfl)
  clear X2 Z2 T2 S2 M2 L2 K2 R2 g4 HL HAP HM nP nX nZ nT hloc hFr nZ4
  have X4c := X4.cell
  have X4l := X4.lt
  have T4c := T4.cell
  have T4f := T4.frozen
  have T4l := T4.lt
  have Z4c := Z4.cell
  have Z4f := Z4.frozen
  have Z4l := Z4.lt
  have i3 : ¬ T = w.heap.size + 1 := by omega
  have i4 : ¬ w.heap.size + 1 = T := by omega
  simp only [zr, roc] at X4c Z4c
  go_wp2_with (fail)
  refine bodyPost_ret (ret_rv rfl _ _ _ ⟨K.n, P', Q', c', d', s, a', l, x, y⟩ _ rfl ((Z4.far i4 _).set8 _ _ _ _ _ _ _ _) rfl) rfl ?_
  refine ⟨P', Q', c', d', _, rfl, (S4.far T4 (by simp) _).far8 (Z4.far i4 _) _ _ _ _ _ _ _ _, (M4.far T4 (by simp) _).far8 (Z4.far i4 _) _ _ _ _ _ _ _ _, (K4.set_ (by simp) _).own8 (by omega) _ _ _ _ _ _ _ _, (T4.set_ 0 _).far8 i3 _ _ _ _ _ _ _ _, (L4.set_ nT4 _).set8 nZ5 _ _ _ _ _ _ _ _, ?_⟩
  intro k e
  cases e
  exact hap4
end Go.Proofs.Ytmjjgaldbnhdfaa
