/- One twin gone through (scan.One): contract. -/
import Derived.Test.YtmhnbnifoncodaaSc4
import Derived.Laws.EntriesVeiled
namespace Go.Proofs.Ytmhnbnifoncodaa
open Go.ChangeShapes Go.WideShapes Go.ChangeAt Go.RowKit Go.Shelf
set_option linter.unusedVariables false
set_option linter.unusedSimpArgs false
attribute [local go_sem] Oper.semAt_some

/-! ### the fold over fields that were done -/
theorem scf_snoc (M : Me) (s l A : Int) : ∀ (L : List Nat) (m : Me) (a : Int) (K : Me) (a' : Int) (i : Nat), scf M s l A L m a = ⟨K, a', 0⟩ → scf M s l A (L ++ [i]) m a = rgs K s a' l A i (M.getv A i)
  | [], m, a, K, a', i, h => by
    have e : m = K ∧ a = a' := by unfold scf at h; cases h; exact ⟨rfl, rfl⟩
    rw [e.1, e.2]
    show scf M s l A [i] K a' = _
    unfold scf
    split
    · rename_i q
      unfold scf
      generalize rgs K s a' l A i (M.getv A i) = R at q
      obtain ⟨x, y, z⟩ := R
      simp only at q
      rw [q]
    · rfl
  | j :: L, m, a, K, a', i, h => by
    show scf M s l A (j :: (L ++ [i])) m a = _
    unfold scf at h ⊢
    split at h
    · rename_i q
      rw [if_pos q]
      exact scf_snoc M s l A L _ _ K a' i h
    · rename_i q
      rw [h] at q
      exact absurd rfl q
theorem scf_stop (M : Me) (s l A : Int) (L2 : List Nat) : ∀ (L : List Nat) (m : Me) (a : Int), (scf M s l A L m a).e ≠ 0 → scf M s l A (L ++ L2) m a = scf M s l A L m a
  | [], m, a, h => absurd rfl h
  | j :: L, m, a, h => by
    show scf M s l A (j :: (L ++ L2)) m a = _
    unfold scf at h ⊢
    split at h
    · rename_i q
      rw [if_pos q, if_pos q]
      exact scf_stop M s l A L2 L _ _ h
    · rename_i q
      rw [if_neg q, if_neg q]
/-- The field that is told at a place. -/
def fld (M : Me) (A : Int) (x : Nat) : Nat := (M.pis A).getD x 0
theorem fld_all (M : Me) (A : Int) : (List.range (M.pis A).length).map (fld M A) = M.pis A := by
  apply List.ext_getElem?
  intro i
  simp only [List.getElem?_map]
  rcases Nat.lt_or_ge i (M.pis A).length with h | h
  · simp [List.getElem?_range h, fld, List.getD, List.getElem?_eq_getElem h]
  · rw [List.getElem?_eq_none (by simpa using h), List.getElem?_eq_none h]; rfl

/-! ### what a round keeps -/
theorem Row.grown {w w' : World} {p : Addr} {xs : List Int} {row : Option Nat} (h : Row w p xs) (k : w.grownBy w' row) (hp : some p.block ≠ row) : Row w' p xs := by
  refine ⟨Nat.lt_of_lt_of_le h.1 k.size, fun j x hx => ?_⟩
  have e := h.2 j x hx
  unfold World.cell? at e ⊢
  rw [block_of_add] at e ⊢
  rw [k.block p.block h.1 hp]
  exact e
theorem Sits.grown {w w' : World} {m : Me} {p q : Addr} {c d : Nat} {row : Option Nat} (h : Sits w m p q c d) (k : w.grownBy w' row) (hp : some p.block ≠ row) (hq : some q.block ≠ row) : Sits w' m p q c d :=
  ⟨h.1, h.2.1, h.2.2.1, h.2.2.2.1, h.2.2.2.2.1, h.2.2.2.2.2.1.grown k hp, h.2.2.2.2.2.2.grown k hq⟩
def KpR (n₀ : Nat) (X Y : World) : Prop := Below n₀ X Y ∧ ∀ g t cs, t ≠ 31 → Blk X g t cs → Blk Y g t cs
theorem KpR.t {n₀ : Nat} {X Y Z : World} (h : KpR n₀ X Y) (k : KpR n₀ Y Z) : KpR n₀ X Z := ⟨h.1.trans k.1, fun g t cs hg hb => k.2 g t cs hg (h.2 g t cs hg hb)⟩
theorem blk_putObj {W : World} {g l : Nat} {t : TypeId} {cs : Array Value} {o : Obj} (o' : Obj) (h : Blk W g t cs) (hl : W.heap[l]? = some o) (ho : o.isCells = false) : Blk (W.putObj l o') g t cs := by
  have hne : g ≠ l := fun e => by
    subst e
    unfold Blk at h
    rw [h] at hl
    cases hl
    cases ho
  exact (World.putObj_heap_other hne).trans h
theorem KpR.b {n₀ : Nat} {w : World} (hn : n₀ ≤ w.heap.size) (W : World) (l : Nat) (o o' : Obj) (hl : w.heap.size ≤ l) (h : W.heap[l]? = some o) (h1 : o.isCells = false) (h2 : o.isWalk = false) : KpR n₀ W (W.putObj l o') :=
  ⟨belowK_b hn W l o o' hl h h1 h2, fun g t cs _ hb => blk_putObj o' hb h h1⟩
theorem Blk.ne_type {W : World} {g g' : Nat} {t t' : TypeId} {cs cs' : Array Value} (h : Blk W g t cs) (h' : Blk W g' t' cs') (ht : t ≠ t') : g ≠ g' := fun e => by
  subst e
  unfold Blk at h h'
  rw [h] at h'
  injection h' with h'
  injection h' with _ h'
  exact ht h'
theorem KpR.kp {n₀ B : Nat} {X Y : World} {cs : Array Value} (h : Kp [B] X Y) (hB : n₀ ≤ B) (hn : n₀ ≤ X.heap.size) (hr : Blk X B 31 cs) : KpR n₀ X Y :=
  ⟨⟨h.os, h.tape, h.output, h.size, fun i hi => h.block i (by omega) (by simp; omega)⟩, fun g t ds ht hb => hb.kp h (by simpa using hb.ne_type hr ht)⟩
theorem Kp.kf {S : List Nat} {B : Nat} {X Y : World} (h : Kp S X Y) (hS : ∀ g ∈ S, g < B) : KeepsFrom B X Y :=
  ⟨h.size, fun k o hB hk _ => (h.block k (Array.getElem?_eq_some_iff.1 hk).1 (fun hm => by have := hS k hm; omega)).trans hk⟩
theorem Kp.bel {S : List Nat} {n : Nat} {X Y : World} (h : Kp S X Y) (hS : ∀ g ∈ S, n ≤ g) (hn : n ≤ X.heap.size) : Below n X Y :=
  ⟨h.os, h.tape, h.output, h.size, fun i hi => h.block i (by omega) (fun hm => by have := hS i hm; omega)⟩
theorem Kp.gb {B : Nat} {X Y : World} (h : Kp [B] X Y) : X.grownBy Y (some B) := ⟨h.os, h.tape, h.output, h.size, fun i hi hne => h.block i hi (by simpa using fun e => hne (by rw [e]))⟩
theorem Row.below {n₀ : Nat} {w w' : World} {p : Addr} {xs : List Int} (h : Row w p xs) (k : Below n₀ w w') (hp : p.block < n₀) : Row w' p xs :=
  ⟨Nat.lt_of_lt_of_le h.1 k.size, fun j x hx => (Below.cell k (by rw [block_of_add]; exact hp)).trans (h.2 j x hx)⟩
theorem Sits.below {n₀ : Nat} {w w' : World} {m : Me} {p q : Addr} {c d : Nat} (h : Sits w m p q c d) (k : Below n₀ w w') (hp : p.block < n₀) (hq : q.block < n₀) : Sits w' m p q c d :=
  ⟨h.1, h.2.1, h.2.2.1, h.2.2.2.1, h.2.2.2.2.1, h.2.2.2.2.2.1.below k hp, h.2.2.2.2.2.2.below k hq⟩
theorem row_no {W : World} {p : Addr} {xs : List Int} {o : Obj} (h : Row W p xs) (h0 : 0 < xs.length) (ho : W.heap[p.block]? = some o) (hc : o.isCells = false) : False := by
  have e := h.at_ 0 h0
  unfold World.cell? at e
  rw [block_of_add, ho] at e
  cases o <;> first | (simp at e; done) | (cases hc)
theorem own_sits {β : Type} (B : Nat) (m : Me) (P Q : Addr) (c d : Nat) : OwnFrom (β := β) B (fun _ W => Sits W m P Q c d) := fun s W W' row hs hg hr => by
  have hn := hs.1
  exact hs.grown hg (fun e => by
    obtain ⟨-, o, ho, hc⟩ := hr _ e.symm
    exact row_no hs.2.2.2.2.2.1 (by have := hn.2.2.1; have := hn.1; omega) ho hc) (fun e => by
    obtain ⟨-, o, ho, hc⟩ := hr _ e.symm
    exact row_no hs.2.2.2.2.2.2 (by have := hn.2.2.2; have := hn.1; omega) ho hc)

/-! ### the loop's books -/
/-- How far it is: the room in its box. -/
def SoFar (M : Me) (s l x y A a : Int) (gX : Nat) (pre : List Nat) (W : World) : Prop :=
  ∃ (K : Me) (a' : Int) (P' Q' : Addr) (c' d' : Nat), Blk W gX 31 (roc K.n (sl P' K.n c') (sl Q' K.n d') s a' l x y) ∧ Sits W K P' Q' c' d' ∧ K.wf ∧ rgt s a' l ∧ l = K.n ∧ scf M s l A (pre.map (fld M A)) M a = ⟨K, a', 0⟩
/-- Boxes that stay. -/
structure Bxs (w1s gA gR gI gE gF ga : Nat) (gX : Nat) (p t lo mp A : Int) (W : World) : Prop where
  a : Blk W gA 3 #[.int .i64 p]
  r : Blk W gR 31 zr
  i : Blk W gI 3 #[.int .i64 0]
  e : Blk W gE 34 #[.int .i64 0]
  h : Blk W w1s 43 (hcs t lo mp)
  aa : Blk W ga 41 #[.int .u64 A]
  f : Blk W gF 54 #[.func (.func 14) #[] #[bx gX, bx ga]]
theorem Bxs.to {w1s gA gR gI gE gF ga gX : Nat} {p t lo mp A : Int} {W W' : World} (h : Bxs w1s gA gR gI gE gF ga gX p t lo mp A W)
    (ne : gA ≠ gX ∧ gR ≠ gX ∧ gI ≠ gX ∧ gE ≠ gX ∧ w1s ≠ gX ∧ ga ≠ gX ∧ gF ≠ gX) (k : ∀ g t cs, g ≠ gX → Blk W g t cs → Blk W' g t cs) : Bxs w1s gA gR gI gE gF ga gX p t lo mp A W' :=
  ⟨k _ _ _ ne.1 h.a, k _ _ _ ne.2.1 h.r, k _ _ _ ne.2.2.1 h.i, k _ _ _ ne.2.2.2.1 h.e, k _ _ _ ne.2.2.2.2.1 h.h, k _ _ _ ne.2.2.2.2.2.1 h.aa, k _ _ _ ne.2.2.2.2.2.2 h.f⟩
theorem own_bxs {β : Type} (B : Nat) (w1s gA gR gI gE gF ga gX : Nat) (p t lo mp A : Int) : OwnFrom (β := β) B (fun _ W => Bxs w1s gA gR gI gE gF ga gX p t lo mp A W) := fun s W W' row hs hg hr =>
  ⟨own_blkF (β := Unit) B _ _ _ () W W' row hs.a hg hr, own_blkF (β := Unit) B _ _ _ () W W' row hs.r hg hr, own_blkF (β := Unit) B _ _ _ () W W' row hs.i hg hr, own_blkF (β := Unit) B _ _ _ () W W' row hs.e hg hr,
    own_blkF (β := Unit) B _ _ _ () W W' row hs.h hg hr, own_blkF (β := Unit) B _ _ _ () W W' row hs.aa hg hr, own_blkF (β := Unit) B _ _ _ () W W' row hs.f hg hr⟩
theorem own_sofar (B : Nat) (M : Me) (s l x y A a : Int) (gX : Nat) : OwnFrom B (SoFar M s l x y A a gX) := fun pre W W' row hs hg hr => by
  obtain ⟨K, a', P', Q', c', d', h1, h2, h3⟩ := hs
  exact ⟨K, a', P', Q', c', d', own_blkF (β := Unit) B _ _ _ () W W' row h1 hg hr, own_sits (β := Unit) B K P' Q' c' d' () W W' row h2 hg hr, h3⟩
/-- Where it is refused: what is handed back. -/
def Refd (M : Me) (s l x y A a p : Int) (gR gI gE : Nat) (cd : Code) (pre : List Nat) (W : World) : Prop :=
  ∃ (K : Me) (a' er : Int) (P' Q' : Addr) (c' d' : Nat), cd = .ret ∧ er ≠ 0 ∧ Blk W gR 31 (roc K.n (sl P' K.n c') (sl Q' K.n d') s a' l x y) ∧ Blk W gI 3 #[.int .i64 p] ∧ Blk W gE 34 #[.int .i64 er] ∧ Sits W K P' Q' c' d' ∧ scf M s l A (pre.map (fld M A)) M a = ⟨K, a', er⟩
theorem own_refd (B : Nat) (M : Me) (s l x y A a p : Int) (gR gI gE : Nat) (cd : Code) : OwnFrom B (Refd M s l x y A a p gR gI gE cd) := fun pre W W' row hs hg hr => by
  obtain ⟨K, a', er, P', Q', c', d', h0, h1, h2, h3, h4, h5, h6⟩ := hs
  exact ⟨K, a', er, P', Q', c', d', h0, h1, own_blkF (β := Unit) B _ _ _ () W W' row h2 hg hr, own_blkF (β := Unit) B _ _ _ () W W' row h3 hg hr, own_blkF (β := Unit) B _ _ _ () W W' row h4 hg hr, own_sits (β := Unit) B K P' Q' c' d' () W W' row h5 hg hr, h6⟩

/-- What is handed back where the run's rounds are over: nothing that is read changes. -/
theorem one_end {w W0 Z : World} {K : Me} {s a' l x y p' er : Int} {P' Q' : Addr} {c' d' gX gR gI gE D : Nat} {tmps : Array Value}
    (hgX : w.heap.size = gX) (e0 : gX ≤ W0.heap.size) (hD : W0.heap.size ≤ D) (hK : Z.heap[D]? = some (.deferred (some [])))
    (hp : tmps.getD 4 undef = .pointer (some ⟨gR, 0, none⟩)) (hu : tmps.getD 5 undef = .pointer (some ⟨gI, 0, none⟩)) (hv : tmps.getD 6 undef = .pointer (some ⟨gE, 0, none⟩))
    (hR : Blk Z gR 31 (roc K.n (sl P' K.n c') (sl Q' K.n d') s a' l x y)) (hI : Blk Z gI 3 #[.int .i64 p']) (hE : Blk Z gE 34 #[.int .i64 er]) (hS : Sits Z K P' Q' c' d') (hB : Below gX w Z) :
    ∃ v, (results Try.f6 tmps).run Try.prog (Z.putObj D (.deferred none)) = .ok v (Z.putObj D (.deferred none)) ∧ OnPost w K s a' l x y p' er (.returned v) (Z.putObj D (.deferred none)) :=
  ⟨_, ret_one3 rfl _ _ gR gI gE K.n s a' l x y p' er (sl P' K.n c') (sl Q' K.n d') hp hu hv (blk_putObj _ hR hK rfl) (blk_putObj _ hI hK rfl) (blk_putObj _ hE hK rfl), P', Q', c', d', rfl, (own_sits (β := Unit) W0.heap.size K P' Q' c' d').putObj (s := ()) _ hS hD hK rfl, by
    show Below w.heap.size w _
    rw [hgX]
    exact hB.trans (belowK_b (w := W0) e0 _ D _ _ hD hK rfl rfl)⟩

set_option maxRecDepth 100000 in
set_option maxHeartbeats 4000000 in
theorem one_in (m : Me) (s a l x y p : Int) (P Q : Addr) (c d : Nat) (w : World) (hm : Sits w m P Q c d) (hwf : m.wf) (hr : rgt s a l) (hl : l = m.n) (hx : ste m s a p = 0) :
    Calls Try.prog 6 #[rov m.n (sl P m.n c) (sl Q m.n d) s a l x y, .int .i64 p] w (OnPost w (onf m s a l p).m s (onf m s a l p).a l x y (onf m s a l p).p (onf m s a l p).e) := by
  have hst := Lib.hid (fun (W : World) (U : Up w W) => stands_any m s a l x y p P Q c d W (hm.up U) hwf hr hl)
  unfold sth at hst
  rw [hx, if_pos rfl] at hst
  have h0 := ste_0 hx
  have had := Lib.hid (fun w => addr_ok s p ⟨hr.1, h0.1, by have := hr.2.2; omega⟩ w)
  have HM := Lib.hid hm
  generalize hT : m.att (adr s p) = t at hst
  generalize hL : m.atl (adr s p) = lo at hst
  generalize hMp : m.atm (adr s p) = mp at hst
  obtain ⟨A, hA⟩ : ∃ A, adr s p = A := ⟨_, rfl⟩
  rw [hA] at had
  have HT := Lib.hid hT
  have HL := Lib.hid hL
  have HMp := Lib.hid hMp
  have HA := Lib.hid hA
  have H0 := Lib.hid h0
  have HR := Lib.hid hr
  have HLN := Lib.hid hl
  have HX := Lib.hid hx
  clear hT hL hMp hA h0 hr hl hx hm
  refine (callsIn_wide (n := 5)).1 ?_
  refine callsIn_of_wp_marks Try.func6 rfl trivial ?_ rfl
  simp only [Try.ntmps6, List.size_toArray, List.length_cons, List.length_nil, Nat.reduceAdd, Nat.reduceSub, Array.replicate_succ, Array.replicate_zero, List.push_toArray, List.append_toArray, List.nil_append, List.cons_append]
  gi_wp2_with (fail)
  refine ⟨trivial, callsIn_wide.2 (calls_at (fun V hV => ?_))⟩
  have U0 : Up w V := by rw [hV]; exact (((((Up.refl w).alloc _).alloc _).alloc _).alloc _).alloc _
  have X0 : Blk V w.heap.size 31 (roc m.n (sl P m.n c) (sl Q m.n d) s a l x y) := by rw [hV]; exact ((((Blk.new' w rfl _ _).alloc _).alloc _).alloc _).alloc _
  have A0 : Blk V (w.heap.size + 1) 3 #[.int .i64 p] := by rw [hV]; exact (((Blk.new' _ (by simp) _ _).alloc _).alloc _).alloc _
  have R0 : Blk V (w.heap.size + 1 + 1) 31 zr := by rw [hV]; exact ((Blk.new' _ (by simp) _ _).alloc _).alloc _
  have I0 : Blk V (w.heap.size + 1 + 1 + 1) 3 #[.int .i64 0] := by rw [hV]; exact (Blk.new' _ (by simp) _ _).alloc _
  have E0 : Blk V (w.heap.size + 1 + 1 + 1 + 1) 34 #[.int .i64 0] := by rw [hV]; exact Blk.new' _ (by simp) _ _
  clear hV
  refine (hst.out V U0).mono ?_
  rintro e w1 ⟨rfl, h1⟩
  have UU := U0.size
  have X1 := X0.up h1
  have A1 := A0.up h1
  have R1 := R0.up h1
  have I1 := I0.up h1
  have E1 := E0.up h1
  have U1 := U0.trans h1
  clear X0 A0 R0 I0 E0 U0 h1 hst
  have X1c := X1.cell
  have A1c := A1.cell
  have X1l := X1.lt
  have A1l := A1.lt
  simp only [roc] at X1c
  gi_wp2_with (fail)
  refine ⟨trivial, callsIn_wide.2 (calls_at (fun V hV => ?_))⟩
  have UV := (Up.refl w1).alloc (.cells (hcs t lo mp) 43)
  rw [← hV] at UV
  have H2 : Blk V w1.heap.size 43 (hcs t lo mp) := by rw [hV]; exact Blk.new w1 _ _
  clear hV
  have X2 := X1.up UV
  have A2 := A1.up UV
  have R2 := R1.up UV
  have I2 := I1.up UV
  have E2 := E1.up UV
  have U2 := U1.trans UV
  have hz1 := UV.size
  have hz0 := U1.size
  have hR1 := R1.lt
  have hEl := E1.lt
  clear X1 A1 R1 I1 E1 U1 UV X1c A1c X1l A1l
  refine (had.out V).mono ?_
  rintro e w2 ⟨rfl, rfl⟩
  have X2c := X2.cell
  have X2l := X2.lt
  have A2c := A2.cell
  have A2l := A2.lt
  have H2c := H2.cell
  have H2l := H2.lt
  simp only [roc] at X2c
  gi_wp2_with (fail)
  refine ⟨trivial, callsIn_wide.2 (calls_at (fun V2 hV2 => ?_))⟩
  have A3 : Blk V2 V.heap.size 41 #[.int .u64 A] := by rw [hV2]; exact (Blk.new V _ _).alloc _
  have F3 : Blk V2 (V.heap.size + 1) 54 #[.func (.func 14) #[] #[bx w.heap.size, bx V.heap.size]] := by rw [hV2]; exact Blk.new' _ (by simp) _ _
  have UV2 : Up V V2 := by rw [hV2]; exact ((Up.refl V).alloc _).alloc _
  clear hV2
  refine (pointers_any m.n P Q c d A V2).mono ?_
  rintro e W0 ⟨rfl, hW0⟩
  have U20 : Up V2 W0 := by rw [hW0]; exact ((Up.refl V2).alloc _).alloc _
  have M4 : Blk W0 V2.heap.size 25 #[.int .i64 m.n, .slice (some P) m.n c, .slice (some Q) m.n d] := by rw [hW0]; exact (Blk.new V2 _ _).alloc _
  have B4 : Blk W0 (V2.heap.size + 1) 41 #[.int .u64 A] := by rw [hW0]; exact Blk.new' _ (by simp) _ _
  clear hW0
  have X4 := (X2.up UV2).up U20
  have bx4 : Bxs w1.heap.size (w.heap.size + 1) (w.heap.size + 1 + 1) (w.heap.size + 1 + 1 + 1) (w.heap.size + 1 + 1 + 1 + 1) (V.heap.size + 1) V.heap.size w.heap.size p t lo mp A W0 :=
    ⟨(A2.up UV2).up U20, (R2.up UV2).up U20, (I2.up UV2).up U20, (E2.up UV2).up U20, (H2.up UV2).up U20, A3.up U20, F3.up U20⟩
  have U4 := (U2.trans UV2).trans U20
  have z1 := UV2.size
  have z2 := U20.size
  have zV := F3.lt
  clear A3 F3 X2 A2 R2 I2 E2 H2 X2c X2l A2c A2l H2c H2l UV2 U20
  have HS4 := Lib.hid (HM.out.up U4)
  have hP : P.block < w.heap.size := HM.out.2.2.2.2.2.1.1
  have hQ : Q.block < w.heap.size := HM.out.2.2.2.2.2.2.1
  have hAu : U64 A := by rw [← HA.out]; exact adr_u64 HR.out.1 H0.out.1 (by have := HR.out.2.2; have := H0.out.2.1; omega)
  have ne : w.heap.size + 1 ≠ w.heap.size ∧ w.heap.size + 1 + 1 ≠ w.heap.size ∧ w.heap.size + 1 + 1 + 1 ≠ w.heap.size ∧ w.heap.size + 1 + 1 + 1 + 1 ≠ w.heap.size ∧ w1.heap.size ≠ w.heap.size ∧ V.heap.size ≠ w.heap.size ∧ V.heap.size + 1 ≠ w.heap.size := ⟨by omega, by omega, by omega, by omega, by omega, by omega, by omega⟩
  have n1 : ¬ w.heap.size + 1 + 1 = w.heap.size := by omega
  have n2 : ¬ w.heap.size + 1 + 1 = w.heap.size + 1 := by omega
  have n3 : ¬ w.heap.size + 1 + 1 + 1 = w.heap.size + 1 := by omega
  have n4 : ¬ w.heap.size + 1 + 1 = w.heap.size + 1 + 1 + 1 := by omega
  have n5 : ¬ w.heap.size + 1 + 1 = w.heap.size + 1 + 1 + 1 + 1 := by omega
  have n6 : ¬ w.heap.size + 1 + 1 + 1 = w.heap.size + 1 + 1 + 1 + 1 := by omega
  have n7 : ¬ w.heap.size + 1 + 1 + 1 = w.heap.size + 1 + 1 := by omega
  have n8 : ¬ w.heap.size + 1 + 1 + 1 + 1 = w.heap.size + 1 + 1 + 1 := by omega
  have n9 : ¬ w.heap.size + 1 + 1 + 1 + 1 = w.heap.size + 1 + 1 := by omega
  have nr1 : ¬ w1.heap.size = w.heap.size + 1 + 1 := by omega
  have nr2 : ¬ w1.heap.size = w.heap.size + 1 + 1 + 1 := by omega
  have nr3 : ¬ w1.heap.size = w.heap.size + 1 + 1 + 1 + 1 := by omega
  have l2 : w.heap.size ≤ w.heap.size + 1 + 1 := by omega
  have l3 : w.heap.size ≤ w.heap.size + 1 + 1 + 1 := by omega
  have l4 : w.heap.size ≤ w.heap.size + 1 + 1 + 1 + 1 := by omega
  have e2 : w.heap.size + 1 + 1 < W0.heap.size := by omega
  have e3 : w.heap.size + 1 + 1 + 1 < W0.heap.size := by omega
  have e4 : w.heap.size + 1 + 1 + 1 + 1 < W0.heap.size := by omega
  have e0 : w.heap.size < W0.heap.size := by omega
  clear hz1 hz0 hR1 hEl z1 z2 zV UU
  gi_wp2_with (fail)
  generalize w.heap.size + 1 + 1 + 1 + 1 = gE at bx4 ne n1 n2 n3 n4 n5 n6 n7 n8 n9 nr1 nr2 nr3 l4 e4 ⊢
  generalize w.heap.size + 1 + 1 + 1 = gI at bx4 ne n1 n2 n3 n4 n5 n6 n7 n8 n9 nr1 nr2 nr3 l3 e3 ⊢
  generalize w.heap.size + 1 + 1 = gR at bx4 ne n1 n2 n3 n4 n5 n6 n7 n8 n9 nr1 nr2 nr3 l2 e2 ⊢
  generalize w.heap.size + 1 = gA at bx4 ne n2 n3 ⊢
  generalize V2.heap.size + 1 = gB at B4 ⊢
  generalize V2.heap.size = gM at M4 ⊢
  generalize V.heap.size + 1 = gF at bx4 ne ⊢
  generalize V.heap.size = ga at bx4 ne ⊢
  generalize w1.heap.size = gH at bx4 ne nr1 nr2 nr3 ⊢
  generalize hgX : w.heap.size = gX at X4 bx4 ne n1 l2 l3 l4 e0 hP hQ ⊢
  have hgX' := Nat.le_of_eq hgX.symm
  have h4 : Below gX w W0 := Below.mono U4 hgX'
  refine wpIn_rangeFunc_ownG rfl (by decide) (gf := 41) (lb := #[bx gM, bx gB]) rfl trivial (enters_of Try.func41 (by kernel_rfl) rfl)
    (pointers_stops 4 (by decide) m A P Q c d gM gB W0 (KpR gX) (fun W => Box W gM m P Q c d ∧ Blk W gB 41 #[.int .u64 A]) hwf hAu (fun _ _ h k => ⟨h.1.up k, h.2.up k⟩) (fun _ _ h k => ⟨⟨k.2 _ _ _ (by decide) h.1.1, h.1.2.below k.1 hP hQ⟩, k.2 _ _ _ (by decide) h.2⟩) (fun _ h => h) (fun _ _ g cs _ k hb => k.2 _ _ _ (by decide) hb) ⟨⟨M4, HS4.out⟩, B4⟩)
    KpR.t (KpR.b (Nat.le_of_lt e0)) (Below.refl _ _) (fun _ => rfl)
    (fun pre W => (SoFar m s l x y A a gX pre W ∧ Bxs gH gA gR gI gE gF ga gX p t lo mp A W) ∧ Below gX w W)
    (fun cd pre W => Refd m s l x y A a p gR gI gE cd pre W ∧ Below gX w W)
    (OwnFrom.and (OwnFrom.and (own_sofar _ _ _ _ _ _ _ _ _) (own_bxs _ _ _ _ _ _ _ _ _ _ _ _ _ _)) (ownFrom_below hgX' (Nat.le_of_lt e0)))
    (fun cd => OwnFrom.and (own_refd _ _ _ _ _ _ _ _ _ _ _ _ cd) (ownFrom_below hgX' (Nat.le_of_lt e0)))
    ⟨⟨⟨m, a, P, Q, c, d, X4, HS4.out, hwf, HR.out, HLN.out, rfl⟩, bx4⟩, h4⟩
    (fun z => { tmps := #[rov m.n (sl P m.n c) (sl Q m.n d) s a l x y, .int .i64 p, bx gX, bx gA, bx gR, bx gI, bx gE, bx gH, .int .i64 0, bx ga, bx gF, .int .i64 (fld m A z : Nat), .int .u64 (m.getv A (fld m A z : Nat)), undef,
      .tuple #[hdv t lo mp, .int .i64 0], rov m.n (sl P m.n c) (sl Q m.n d) s a l x y, .int .i64 p, .tuple #[hdv t lo mp, .int .i64 0], hdv t lo mp, .int .i64 0, .int .i64 0, .bool false, undef, undef, undef, .pointer (some ⟨gX, 3, none⟩), .pointer (some ⟨gX, 3, none⟩), .int .i64 s, .int .i64 p, .int .u64 A,
      .func (.func 14) #[] #[bx gX, bx ga], bx gX, .agg #[.int .i64 m.n, sl P m.n c, sl Q m.n d], .int .u64 A, .func (.func 41) #[] #[bx gM, bx gB], .int .i64 (fld m A z : Nat), .int .u64 (m.getv A (fld m A z : Nat)), undef, undef, undef, undef, undef, undef, undef, undef, undef, undef, undef, undef, undef, undef], defers := [] })
    ?assign ?body ?done ?stop
  case assign =>
    intro l' z W K hK
    unfold pen
    gi_wp2
    exact hK
  case body =>
    rintro l' pre z W ⟨⟨⟨K, a', P', Q', c', d', hX, hS, hKw, hKr, hKl, hfold⟩, hB⟩, hBel⟩ -
    have hv := getv_u64 hwf A (fld m A z : Nat)
    have hfs := scf_snoc m s l A _ _ _ K a' (fld m A z) hfold
    rw [show pre.map (fld m A) ++ [fld m A z] = (pre ++ [z]).map (fld m A) from by simp] at hfs
    generalize fld m A z = i at hfs hv ⊢
    generalize m.getv A (i : Nat) = v at hfs hv ⊢
    have hc := Lib.hid (rightp_any K s a' l x y A i v P' Q' c' d' gX ga W hX hB.aa hS hKw hAu hv hKr hKl)
    have hKe := rgs_ke (A := A) (k := 2 + (i : Int) + 1) hS.1 hKw hKr hKl (i : Int) v hv (by omega) (by omega)
    obtain ⟨R, hR⟩ : ∃ R, rgs K s a' l A i v = R := ⟨_, rfl⟩
    rw [hR] at hc hKe hfs
    obtain ⟨K2, a2, er⟩ := R
    simp only at hc hKe
    have HF := Lib.hid hfs
    have HKe := Lib.hid (show K2.wf ∧ rgt s a2 l ∧ l = K2.n from ⟨hKe.wf, hKe.rg hKr hKl⟩)
    have cF := hB.f.cell
    have hWs := hBel.size
    clear hR hKe hfs hv hfold hKw hKr hKl
    gi_wp2_with (fail)
    refine ⟨trivial, ?_⟩
    refine (CallsIn.inRound l' (callsIn_wide.2 hc.out)).mono ?_
    rintro e w5 ⟨rfl, hk, P5, Q5, c5, d5, hX5, hS5⟩
    have kf : KeepsFrom W0.heap.size W w5 := KeepsFrom.of_grownBy hk.gb (fun j e => by cases e; exact e0)
    have hB5 := hB.to ne (fun g t cs hg hb => hb.kp hk (by simpa using hg))
    have kr := KpR.kp hk (Nat.le_refl _) (by omega) hX
    have hBel5 := hBel.trans kr.1
    clear hc cF hk hX hS hB
    by_cases he : er = 0
    · subst he
      gi_wp2
      exact ⟨kf, kr, ⟨⟨K2, a2, P5, Q5, c5, d5, hX5, hS5, HKe.out.1, HKe.out.2.1, HKe.out.2.2, HF.out⟩, hB5⟩, hBel5⟩
    · have hb : (er != 0) = true := bne_iff_ne.2 he
      have HE := Lib.hid he
      clear he kr
      have cX := hX5.cell
      have lX := hX5.lt
      have cA := hB5.a.cell
      have cR := hB5.r.cell
      have fR := hB5.r.frozen
      have lR := hB5.r.lt
      have cI := hB5.i.cell
      have fI := hB5.i.frozen
      have lI := hB5.i.lt
      have cE := hB5.e.cell
      have fE := hB5.e.frozen
      have lE := hB5.e.lt
      simp only [roc, zr] at cX cR
      have S1 : ∀ g ∈ [gR, gI, gE], g < W0.heap.size := by simp; omega
      have S2 : ∀ g ∈ [gR, gI, gE], gX ≤ g := by simp; omega
      have S3 := Lib.hid (And.intro S1 S2)
      have n5s := hBel5.size
      clear S1 S2
      have HR8 := Lib.hid (hB5.r)
      have HI8 := Lib.hid (hB5.i)
      have HE8 := Lib.hid (hB5.e)
      have HX8 := Lib.hid hX5
      clear hX5 hB5
      gi_wp2_with (fail)
      gi_region
      all_goals
        gi_wp2_with (fail)
        have K5 : Kp [gR, gI, gE] w5 _ := ((((Kp.refl [gR, gI, gE] w5).set8 (List.mem_cons_self) (.int .i64 K2.n) (sl P5 K2.n c5) (sl Q5 K2.n d5) (.int .i64 s) (.int .i64 a2) (.int .i64 l) (.int .i64 x) (.int .i64 y)).set_ (g := gI) (i := 0) (List.mem_cons_of_mem _ List.mem_cons_self) (.int .i64 p)).set_ (g := gE) (i := 0) (List.mem_cons_of_mem _ (List.mem_cons_of_mem _ List.mem_cons_self)) (.int .i64 er)).up (Up.refl _).drew
        refine ⟨kf.trans (K5.kf S3.out.1), ⟨K2, a2, er, P5, Q5, c5, d5, rfl, HE.out, ?_, ?_, ?_, ?_, HF.out⟩, hBel5.trans (K5.bel S3.out.2 (by omega))⟩
        · exact (((HR8.out.set8 _ _ _ _ _ _ _ _).far n4 _).far n5 _).drew
        · exact (((HI8.out.far8 n7 _ _ _ _ _ _ _ _).set_ 0 _).far n6 _).drew
        · exact (((HE8.out.far8 n9 _ _ _ _ _ _ _ _).far n8 _).set_ 0 _).drew
        · exact hS5.kp K5 ((Tiny.two HI8.out HE8.out).cons HR8.out (by simp [zr]))
  case done =>
    rintro D zs W hD rfl ⟨⟨⟨K, a', P', Q', c', d', hX, hS, hKw, hKr, hKl, hfold⟩, hB⟩, hBel⟩ hK
    have H0' := H0.out
    obtain ⟨hrt, hmp⟩ := at_rte H0'.2.2.1
    have hws := wdn_small hmp hrt
    have hwd := Lib.hid (fun w => words_any (m.att (adr s p)) (m.atl (adr s p)) (m.atm (adr s p)) hmp hrt w)
    have hr2 := HR.out.2
    rw [fld_all] at hfold
    have eO : onf m s a l p = ⟨K, a', p + m.wz (adr s p), 0⟩ := by
      unfold onf
      rw [if_pos HX.out]
      have e1 : scr m s a l p = ⟨K, a', 0⟩ := by
        unfold scr
        have := HA.out
        subst this
        exact hfold
      rw [e1, if_pos rfl]
    unfold Me.wz at H0' eO
    rw [HT.out, HL.out] at hwd hws H0' eO
    rw [HMp.out] at hwd
    have EO := Lib.hid eO
    clear hrt hmp hfold eO
    generalize wdn t lo = k at hwd hws H0' EO
    have h0 : 0 ≤ p := H0'.1
    have h1 : p + k ≤ a := H0'.2.2.2
    clear H0'
    have cX := hX.cell
    have cA := hB.a.cell
    have cR := hB.r.cell
    have fR := hB.r.frozen
    have lR := hB.r.lt
    have cI := hB.i.cell
    have fI := hB.i.frozen
    have lI := hB.i.lt
    have cE := hB.e.cell
    have fE := hB.e.frozen
    have lE := hB.e.lt
    have cH := hB.h.cell
    simp only [roc, zr] at cX cR
    have m1 : gX ≠ gR := fun e => n1 e.symm
    have m2 : gA ≠ gR := fun e => n2 e.symm
    have m3 : gA ≠ gI := fun e => n3 e.symm
    have wr : IntKind.i64.wrap (p + k) = p + k := IntWalk.i64_in _ (by omega)
    gi_wp2_with (fail)
    refine wpIn_wide.2 (wp_region_noPanic ?_)
    have S2 : ∀ g ∈ [gR, gI, gE], gX ≤ g := by simp; omega
    have S4 : D ∉ [gR, gI, gE] := by simp; omega
    have hDl : D < W.heap.size := (Array.getElem?_eq_some_iff.1 hK).1
    have n5s := hBel.size
    have S3 := Lib.hid (And.intro S2 S4)
    have HK := Lib.hid hK
    have HT3 := Lib.hid ((Tiny.two hB.i hB.e).cons hB.r (by simp [zr]))
    clear hKl hKr hKw h0 h1 hr2 hws S2 S4 hK
    go_region_with (go_at_call 18; ((with_reducible refine (hwd.out _).mono ?_); rintro e wz ⟨rfl, hz⟩; have UZ : Up W wz := (Up.refl W).drew.trans hz; have XZ := hX.up UZ; have XZc := XZ.cell; have AZ := hB.a.up UZ; have AZc := AZ.cell; have RZ := hB.r.up UZ; have RZc := RZ.cell; have RZf := RZ.frozen; have RZl := RZ.lt; have IZ := hB.i.up UZ; have IZc := IZ.cell; have IZf := IZ.frozen; have IZl := IZ.lt; have EZ := hB.e.up UZ; have EZc := EZ.cell; have EZf := EZ.frozen; have EZl := EZ.lt; simp only [roc, zr] at XZc RZc))
    all_goals
      refine NoPanic.normal ?_
      gi_wp2_with (fail)
      have K9 : Kp [gR, gI, gE] W _ := (((Kp.of_up UZ).set8 List.mem_cons_self (.int .i64 K.n) (sl P' K.n c') (sl Q' K.n d') (.int .i64 s) (.int .i64 a') (.int .i64 l) (.int .i64 x) (.int .i64 y)).set_ (g := gI) (i := 0) (List.mem_cons_of_mem _ List.mem_cons_self) (.int .i64 (p + k))).set_ (g := gE) (i := 0) (List.mem_cons_of_mem _ (List.mem_cons_of_mem _ List.mem_cons_self)) (.int .i64 0)
      have hK9 := (K9.block D hDl S3.out.2).trans HK.out
      refine ⟨by simp, .inl ⟨_, _, rfl, run_takeDeferred hK9, ?_⟩⟩
      rw [EO.out]
      exact one_end hgX (Nat.le_of_lt e0) hD hK9 rfl rfl rfl (((RZ.set8 _ _ _ _ _ _ _ _).far n4 _).far n5 _) (((IZ.far8 n7 _ _ _ _ _ _ _ _).set_ 0 _).far n6 _) (((EZ.far8 n9 _ _ _ _ _ _ _ _).far n8 _).set_ 0 _) (hS.kp K9 HT3.out) (hBel.trans (K9.bel S3.out.1 (by omega)))
  case stop =>
    rintro D cd pre W hD hSp ⟨⟨K, a', er, P', Q', c', d', rfl, he, hR, hI, hE, hS, hfold⟩, hBel⟩ hK
    have EO := Lib.hid (show onf m s a l p = ⟨K, a', p, er⟩ from by
      unfold onf
      rw [if_pos HX.out]
      have e1 : scr m s a l p = ⟨K, a', er⟩ := by
        unfold scr
        have := HA.out
        subst this
        obtain ⟨L2, hL2⟩ := hSp
        have e2 := congrArg (List.map (fld m (adr s p))) hL2
        rw [fld_all, List.map_append] at e2
        rw [show pts (m.atl (adr s p)) (m.atm (adr s p)) = m.pis (adr s p) from rfl, ← e2]
        refine (scf_stop m s l (adr s p) _ _ m a (by rw [hfold]; exact he)).trans hfold
      rw [e1, if_neg he])
    clear hfold hSp
    gi_wp2
    refine ⟨by simp, .inl ⟨_, _, rfl, run_takeDeferred hK, ?_⟩⟩
    rw [EO.out]
    exact one_end hgX (Nat.le_of_lt e0) hD hK rfl rfl rfl hR hI hE hS hBel
end Go.Proofs.Ytmhnbnifoncodaa
