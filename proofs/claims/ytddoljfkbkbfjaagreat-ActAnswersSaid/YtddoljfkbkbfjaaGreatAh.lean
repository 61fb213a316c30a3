/- What is told. -/
import Derived.Test.YtddoljfkbkbfjaaGreatAg
/-! Of stage 6 -/
namespace Go.Proofs.YtddoljfkbkbfjaaGreat
open Go.ChangeShapes Go.WideShapes Go.ChangeAt Go.RowKit
set_option linter.unusedVariables false
set_option linter.unusedSimpArgs false

/-- A place's address. -/
def adr (s p : Int) : Int := (s + 1) * 4294967296 + p
set_option maxHeartbeats 400000 in
theorem addr_ok (s p : Int) (h0 : s = 0 ∨ s = 1) (h1 : 0 ≤ p) (h2 : p < 4294967296) (w : World) :
    Calls Tryz.prog 153 #[.int .i64 s, .int .i64 p] w fun e w' => e = .returned (.int .u64 (adr s p)) ∧ w = w' := by
  rcases h0 with rfl | rfl
  · go_enter Tryz.func153, Tryz.ntmps153
    go_wp2
    go_ret
    exact ⟨ret_int (by unfold adr; omega), rfl⟩
  · go_enter Tryz.func153, Tryz.ntmps153
    go_wp2
    go_ret
    exact ⟨ret_int (by unfold adr; omega), rfl⟩
theorem adr_u64 {s p : Int} (h0 : s = 0 ∨ s = 1) (h1 : 0 ≤ p) (h2 : p < 4294967296) : U64 (adr s p) := by unfold U64 adr; omega

/-- How many words what is at an address has. -/
def Me.wsz (m : Me) (a : Int) : Int := wdn (m.att a) (m.atl a)
/-- Why it isn't told, where so many words are left. -/
def Me.wne (m : Me) (a lf : Int) : Int := if m.ate a = 0 then (if lf < m.wsz a then 10 else 0) else m.ate a
theorem at_rte {m : Me} {a : Int} (h : m.ate a = 0) : rte (m.att a) (m.atl a) (m.atm a) = 0 ∧ 0 ≤ m.atm a := by
  have k := ate_0.1 h
  obtain ⟨e1, e2, e3⟩ := at_of k
  rw [e1, e2, e3]
  exact ⟨atok_rte k, mpw_nn _⟩
theorem wsz_small {m : Me} {a : Int} (h : m.ate a = 0) : 1 ≤ m.wsz a ∧ m.wsz a ≤ 65536 := wdn_small (at_rte h).2 (at_rte h).1

theorem wne_0 {m : Me} {a lf : Int} : m.wne a lf = 0 ↔ m.ate a = 0 ∧ m.wsz a ≤ lf := by
  unfold Me.wne
  by_cases hk : m.ate a = 0
  · rw [if_pos hk]
    by_cases hl : lf < m.wsz a
    · rw [if_pos hl]
      exact ⟨fun q => (by cases q), fun q => by omega⟩
    · rw [if_neg hl]
      exact ⟨fun _ => ⟨hk, by omega⟩, fun _ => rfl⟩
  · rw [if_neg hk]
    exact ⟨fun q => absurd q hk, fun q => absurd q.1 hk⟩

/-- Is an object, no filler, at an address? -/
def Me.real (m : Me) (a : Int) : Bool := decide (m.kne a = 0)
theorem real_at {m : Me} {a : Int} (b : Bool) (h : (m.ate a == 0) = b) : m.real a = (b && !(m.att a == 255)) := by
  unfold Me.real
  cases b
  · have h := beq_eq_false_iff_ne.1 h
    exact decide_eq_false (fun q => h (ate_0.2 (kne_0.1 q).1))
  · have h := beq_iff_eq.1 h
    by_cases k : m.att a = 255
    · rw [decide_eq_false (fun q => (kne_0.1 q).2 k), beq_iff_eq.2 k]; rfl
    · rw [decide_eq_true (kne_0.2 ⟨ate_0.1 h, k⟩), beq_eq_false_iff_ne.2 k]; rfl

set_option maxHeartbeats 1000000 in
theorem rreal_any (m : Me) (a : Int) (P Q : Addr) (c d : Nat) (w : World) (hm : Sits w m P Q c d) (ha : U64 a) (hwf : m.wf) :
    Calls Tryz.prog 90 #[.agg #[.int .i64 m.n, .slice (some P) m.n c, .slice (some Q) m.n d], .int .u64 a] w fun e w' => e = .returned (.bool (m.real a)) ∧ Up w w' := by
  have hat := Lib.hid (fun (W : World) (hS : Sits W m P Q c d) => rat_any m a P Q c d W hS ha hwf)
  have HM := Lib.hid hm
  generalize hb : (m.ate a == 0) = b
  rw [real_at b hb]
  clear hm ha hwf
  generalize m.ate a = x at hat hb
  generalize m.att a = t at hat ⊢
  generalize m.atl a = l at hat
  generalize m.atm a = mp at hat
  generalize hf : (!(t == 255)) = fb
  have hf2 : (t != 255) = fb := hf
  clear hf
  go_enter Tryz.func90, Tryz.ntmps90
  go_wp2_with (fail)
  refine (hat.out _ (HM.out.up ((Up.refl w).alloc _))).mono ?_
  rintro e w1 ⟨rfl, h1⟩
  have U1 : Up w w1 := ((Up.refl w).alloc _).trans h1
  clear h1
  cases b
  · go_wp2
    go_ret
    exact ⟨rfl, U1.alloc _⟩
  · go_wp2
    go_ret
    exact ⟨rfl, U1.alloc _⟩

end Go.Proofs.YtddoljfkbkbfjaaGreat
/-! Of stage 6 -/
namespace Go.Proofs.YtddoljfkbkbfjaaGreat
open Go.ChangeShapes Go.WideShapes Go.ChangeAt Go.RowKit Go.Shelf
set_option linter.unusedVariables false
set_option linter.unusedSimpArgs false
attribute [local go_sem] Oper.semAt_some

/-- A scope in which the run jumps back to one label, inside the wide fence. -/
theorem wpIn_scope_jumps {n : Nat} {P : Program} {a : Act} {w : World} {Q : Exit → Act → World → Prop} {c rest : Code} (l : Nat) (J : Act → World → Prop) (μ : Act → World → Nat) (hf : findLabel c l = some rest)
    (first : c.wpIn Fence.wide n P (Exit.jump l J Q) a w)
    (pass : ∀ a w, J a w → rest.wpIn Fence.wide n P (Exit.jump l (fun a' w' => J a' w' ∧ μ a' w' < μ a w) Q) a w) : (Code.scope c).wpIn Fence.wide n P Q a w :=
  wpIn_wide.2 (wp_scope_jumps l J μ hf (wpIn_wide.1 first) (fun a w h => wpIn_wide.1 (pass a w h)))
/-- What comes: where it is, what its first word tells; the error. -/
structure Th where
  a : Int
  t : Int
  l : Int
  m : Int
  e : Int
def Th.enc (x : Th) : Array Value := #[.agg #[.int .u64 x.a, .int .i64 x.t, .int .i64 x.l, .int .u64 x.m], .int .i64 x.e]
/-- What comes of a space, from a place on. -/
def Me.seqn (m : Me) (s lim : Int) : Nat → Int → List Th
  | 0, _ => []
  | f + 1, p => if lim ≤ p then [] else
      if m.wne (adr s p) (lim - p) = 0 then ⟨adr s p, m.att (adr s p), m.atl (adr s p), m.atm (adr s p), 0⟩ :: m.seqn s lim f (p + m.wsz (adr s p))
      else [⟨0, 0, 0, 0, m.wne (adr s p) (lim - p)⟩]
theorem seqn_end {m : Me} {s lim p : Int} {f : Nat} (h : lim ≤ p) : m.seqn s lim f p = [] := by
  cases f with
  | zero => rfl
  | succ f => exact if_pos h
theorem seqn_yes {m : Me} {s lim p : Int} {f : Nat} (h : p < lim) (k : m.wne (adr s p) (lim - p) = 0) :
    m.seqn s lim (f + 1) p = ⟨adr s p, m.att (adr s p), m.atl (adr s p), m.atm (adr s p), 0⟩ :: m.seqn s lim f (p + m.wsz (adr s p)) :=
  (if_neg (by omega)).trans (if_pos k)
theorem seqn_no {m : Me} {s lim p : Int} {f : Nat} (h : p < lim) (k : m.wne (adr s p) (lim - p) ≠ 0) : m.seqn s lim (f + 1) p = [⟨0, 0, 0, 0, m.wne (adr s p) (lim - p)⟩] :=
  (if_neg (by omega)).trans (if_neg k)

/-- What the iterator's boxes hold. -/
def Caps (W : World) (Bm Bs Bl : Nat) (m : Me) (s lim : Int) (P Q : Addr) (c d : Nat) : Prop :=
  Box W Bm m P Q c d ∧ Blk W Bs 3 #[.int .i64 s] ∧ Blk W Bl 3 #[.int .i64 lim]
theorem Caps.up {W W' : World} {Bm Bs Bl : Nat} {m : Me} {s lim : Int} {P Q : Addr} {c d : Nat} (h : Caps W Bm Bs Bl m s lim P Q c d) (k : Up W W') : Caps W' Bm Bs Bl m s lim P Q c d :=
  ⟨h.1.up k, h.2.1.up k, h.2.2.up k⟩

def AtNx (m : Me) (s lim : Int) (P Q : Addr) (c d Bm Bs Bl l : Nat) (all : List Th) (J : List Th → World → Prop) (a' : Act) (w' : World) : Prop :=
  ∃ (p : Int) (f : Nat) (pre : List Th) (u6 u7 u8 u9 u10 u11 u12 u13 u14 u15 u16 u17 u18 u19 u20 u21 u22 u23 u24 u25 u26 u27 u28 u29 u30 u31 u32 u33 u34 u35 u36 u37 u38 u39 : Value),
    a' = { tmps := #[.func (.yield l) #[] #[], bx Bl, bx Bs, bx Bm, undef, .int .i64 p, u6, u7, u8, u9, u10, u11, u12, u13, u14, u15, u16, u17, u18, u19, u20, u21, u22, u23, u24, u25, u26, u27, u28, u29, u30, u31, u32, u33, u34, u35, u36, u37, u38, u39], defers := [] }
      ∧ 0 ≤ p ∧ (lim - p).toNat < f ∧ all = pre ++ m.seqn s lim f p ∧ J pre w' ∧ Caps w' Bm Bs Bl m s lim P Q c d


end Go.Proofs.YtddoljfkbkbfjaaGreat
/-! Of stage 6 -/
namespace Go.Proofs.YtddoljfkbkbfjaaGreat
open Go.ChangeShapes Go.WideShapes Go.ChangeAt Go.RowKit Go.Shelf
set_option linter.unusedVariables false
set_option linter.unusedSimpArgs false
attribute [local go_sem] Oper.semAt_some

abbrev mcs (n : Nat) (P Q : Addr) (c d : Nat) : Array Value := #[.int .i64 n, .slice (some P) n c, .slice (some Q) n d]
/-- A row of the call's own: words. -/
def Lo (w : World) (n₀ : Nat) (v : Value) (xs : List Int) : Prop := w.ownsRow n₀ 54 1 v xs.length (wds xs)
theorem Lo.sl {w : World} {n₀ : Nat} {v : Value} {xs : List Int} (h : Lo w n₀ v xs) : ∃ A cap, v = .slice A xs.length cap ∧ xs.length ≤ cap ∧ cap ≤ maxLen ∧ Rd w A xs.length xs := by
  obtain ⟨hl, hc⟩ := h
  rcases hc with ⟨rfl, h0⟩ | ⟨g, cap, cur, rfl, hb, hg, h1, h2, h3, h4⟩
  · obtain rfl : xs = [] := List.eq_nil_of_length_eq_zero h0
    exact ⟨none, 0, rfl, Nat.le_refl _, Nat.zero_le _, rfl, fun q => absurd q (by simp)⟩
  · refine ⟨_, _, rfl, h1, h2, rfl, fun q => ⟨_, rfl, ?_, fun j x hx => ?_⟩⟩
    · exact (Array.getElem?_eq_some_iff.1 hg).1
    · rw [add_zero', cell_of_row w g j cur _ (0, 0) hg]
      have hj : (wds xs)[j]? = some (.int .u64 x) := by simp [wds, hx, wd]
      rw [← h4, List.getElem?_take] at hj
      have hlt : j < xs.length := by
        rcases Nat.lt_or_ge j xs.length with q | q
        · exact q
        · rw [List.getElem?_eq_none q] at hx; cases hx
      rw [if_pos (by omega)] at hj
      simpa using hj
theorem Lo.nil (w : World) (n₀ : Nat) : Lo w n₀ (.slice none 0 0) [] := World.ownsRow_nil _ _ _ _
theorem Lo.up {w w' : World} {n₀ : Nat} {v : Value} {xs : List Int} (h : Lo w n₀ v xs) (k : Up w w') : Lo w' n₀ v xs :=
  World.ownsRow.kept h k.gb (by
    cases e : v.ownBlock with
    | none => exact .inl rfl
    | some g => exact .inr (by simp))

theorem Row.below {n₀ : Nat} {w w' : World} {p : Addr} {xs : List Int} (h : Row w p xs) (k : Below n₀ w w') (hp : p.block < n₀) : Row w' p xs :=
  ⟨Nat.lt_of_lt_of_le h.1 k.size, fun j x hx => (Below.cell k (by rw [block_of_add]; exact hp)).trans (h.2 j x hx)⟩
theorem Sits.below {n₀ : Nat} {w w' : World} {m : Me} {p q : Addr} {c d : Nat} (h : Sits w m p q c d) (k : Below n₀ w w') (hp : p.block < n₀) (hq : q.block < n₀) : Sits w' m p q c d :=
  ⟨h.1, h.2.1, h.2.2.1, h.2.2.2.1, h.2.2.2.2.1, h.2.2.2.2.2.1.below k hp, h.2.2.2.2.2.2.below k hq⟩

/-- What a round keeps: what lay below, and blocks of the iterator's kinds. -/
def KpT (n₀ : Nat) (A B : World) : Prop := Below n₀ A B ∧ ∀ g t cs, (t = 60 ∨ t = 25 ∨ t = 3) → Blk A g t cs → Blk B g t cs
theorem KpT.t {n₀ : Nat} {A B C : World} (h : KpT n₀ A B) (k : KpT n₀ B C) : KpT n₀ A C := ⟨h.1.trans k.1, fun g t cs ht hb => k.2 g t cs ht (h.2 g t cs ht hb)⟩
theorem blk_putObj {W : World} {g l : Nat} {t : TypeId} {cs : Array Value} {o : Obj} (o' : Obj) (h : Blk W g t cs) (hl : W.heap[l]? = some o) (ho : o.isCells = false) : Blk (W.putObj l o') g t cs := by
  have hne : g ≠ l := fun e => by
    subst e
    unfold Blk at h
    rw [h] at hl
    cases hl
    cases ho
  exact (World.putObj_heap_other hne).trans h
theorem KpT.b {n₀ : Nat} {w : World} (hn : n₀ ≤ w.heap.size) (W : World) (l : Nat) (o o' : Obj) (hl : w.heap.size ≤ l) (h : W.heap[l]? = some o) (h1 : o.isCells = false) (h2 : o.isWalk = false) : KpT n₀ W (W.putObj l o') :=
  ⟨belowK_b hn W l o o' hl h h1 h2, fun g t cs _ hb => blk_putObj o' hb h h1⟩
theorem KpT.up {n₀ : Nat} {A B : World} (h : Up A B) (hn : n₀ ≤ A.heap.size) : KpT n₀ A B := ⟨h.bel hn, fun g t cs _ hb => hb.up h⟩
theorem blk_of {W : World} {B : Nat} {t : TypeId} {v : Value} (h : Boxed W B t v) : Blk W B t #[v] := h
theorem Blk.ne_type {W : World} {g g' : Nat} {t t' : TypeId} {cs cs' : Array Value} (h : Blk W g t cs) (h' : Blk W g' t' cs') (ht : t ≠ t') : g ≠ g' := fun e => by
  subst e
  unfold Blk at h h'
  rw [h] at h'
  injection h' with h'
  injection h' with _ h'
  exact ht h'
theorem KpT.set_ {n₀ : Nat} {A B : World} (h : KpT n₀ A B) {g i : Nat} {t : TypeId} {cs : Array Value} (hg : n₀ ≤ g) (hb : Blk B g t cs) (ht : t ≠ 60 ∧ t ≠ 25 ∧ t ≠ 3) (u : Value) : KpT n₀ A (B.setCell ⟨g, i, none⟩ u) :=
  ⟨h.1.setCell hg u, fun g' t' cs' ht' hb' => (h.2 g' t' cs' ht' hb').far (fun e => Blk.ne_type (h.2 g' t' cs' ht' hb') hb (fun q => by
    subst q
    rcases ht' with q | q | q
    · exact ht.1 q
    · exact ht.2.1 q
    · exact ht.2.2 q) e) u⟩
/-- Behind an append. -/
theorem blk_app {W w1 : World} {n₀ B : Nat} {t e t' : TypeId} {size k g : Nat} {v v' : Value} {xs : List Value} {tmp : Obj} {cs : Array Value}
    (hv : Boxed W B t v) (hv1 : Boxed w1 B t v) (hrow : W.ownsRow n₀ e size v k xs) (hgrow : (W.alloc tmp).grownBy w1 v.ownBlock) (hg : Blk W g t' cs) (h1 : e ≠ t') (h2 : t' ≠ t) : Blk (w1.setCell ⟨B, 0, none⟩ v') g t' cs := by
  have h3 := (hg.alloc tmp).grown hgrow (own_row_ne hrow hg h1)
  exact h3.far (h3.ne_type (blk_of hv1) h2) v'

/-- The first error that comes. -/
def ers : List Th → Int
  | [] => 0
  | x :: r => if x.e = 0 then ers r else x.e
def pick (wn : Th → Bool) (l : List Th) : List Int := (l.filter wn).map Th.a
theorem ers_all {l : List Th} (h : ∀ x ∈ l, x.e = 0) : ers l = 0 := by
  induction l with
  | nil => rfl
  | cons x r ih => exact (if_pos (h x (by simp))).trans (ih fun y hy => h y (by simp [hy]))
theorem ers_pre {l p : List Th} {x : Th} (h : ∀ y ∈ p, y.e = 0) (hx : x.e ≠ 0) (hl : p ++ [x] <+: l) : ers l = x.e := by
  obtain ⟨r, rfl⟩ := hl
  rw [List.append_assoc]
  induction p with
  | nil => exact if_neg hx
  | cons y q ih => exact (if_pos (h y (by simp))).trans (ih fun z hz => h z (by simp [hz]))
theorem pick_yes {wn : Th → Bool} {l : List Th} {x : Th} (h : wn x = true) : pick wn (l ++ [x]) = pick wn l ++ [x.a] := by simp [pick, List.filter_append, h]
theorem pick_no {wn : Th → Bool} {l : List Th} {x : Th} (h : wn x = false) : pick wn (l ++ [x]) = pick wn l := by simp [pick, List.filter_append, h]

/-- What is told: a row of words, and an error. -/
def Tolds (w : World) (xs : List Int) (er : Int) (e : Ending) (w' : World) : Prop := ∃ v, e = .returned (.tuple #[v, .int .i64 er]) ∧ Lo w' w.heap.size v xs ∧ Up w w'

theorem Up.kf {B : Nat} {a b : World} (h : Up a b) : KeepsFrom B a b := KeepsFrom.of_grownBy h.gb (fun j e => by cases e)
theorem all_snoc {p : List Th} {x : Th} (h : ∀ y ∈ p, y.e = 0) (hx : x.e = 0) : ∀ y ∈ p ++ [x], y.e = 0 := by
  intro y hy
  rcases List.mem_append.1 hy with q | q
  · exact h y q
  · rw [List.mem_singleton.1 q]; exact hx


end Go.Proofs.YtddoljfkbkbfjaaGreat
