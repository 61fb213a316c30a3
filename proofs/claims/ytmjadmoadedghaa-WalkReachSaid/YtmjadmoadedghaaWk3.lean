/- All objects of a space, those that are wanted (package walk's told): contracts. -/
import Derived.Test.YtmjadmoadedghaaWk2
namespace Go.Proofs.Ytmjadmoadedghaa
open Go.ChangeShapes Go.WideShapes Go.ChangeAt Go.RowKit Go.Shelf
set_option linter.unusedVariables false
set_option linter.unusedSimpArgs false
attribute [local go_sem] Oper.semAt_some

abbrev mcs (n : Nat) (P Q : Addr) (c d : Nat) : Array Value := #[.int .i64 n, .slice (some P) n c, .slice (some Q) n d]
theorem things_any (n : Nat) (P Q : Addr) (c d : Nat) (s lim : Int) (w : World) :
    Calls Try.prog 42 #[.agg (mcs n P Q c d), .int .i64 s, .int .i64 lim] w fun e w' => e = .returned (.func (.func 60) #[] #[bx (w.heap.size + 1 + 1), bx (w.heap.size + 1), bx w.heap.size])
      ∧ w' = ((w.alloc (.cells (mcs n P Q c d) 25)).alloc (.cells #[.int .i64 s] 3)).alloc (.cells #[.int .i64 lim] 3) := by
  go_enter Try.func42, Try.ntmps42
  go_wp2
  go_ret
  exact ⟨rfl, rfl⟩

/-- A row of the call's own: words. -/
def Lo (w : World) (n₀ : Nat) (v : Value) (xs : List Int) : Prop := w.ownsRow n₀ 31 1 v xs.length (wds xs)
theorem Lo.sl {w : World} {n₀ : Nat} {v : Value} {xs : List Int} (h : Lo w n₀ v xs) : ∃ A cap, v = .slice A xs.length cap ∧ xs.length ≤ cap ∧ cap ≤ maxLen ∧ Rd w A xs.length xs := by
  obtain ⟨hl, hc⟩ := h
  rcases hc with ⟨rfl, h0⟩ | ⟨g, cap, cur, rfl, hb, hg, h1, h2, h3, h4⟩
  · obtain rfl : xs = [] := List.eq_nil_of_length_eq_zero h0
    exact ⟨none, 0, rfl, Nat.le_refl _, Nat.zero_le _, rfl, fun q => absurd q (by simp)⟩
  · refine ⟨_, _, rfl, h1, h2, rfl, fun q => ⟨_, rfl, ?_, fun j x hx => ?_⟩⟩
    · exact (Array.getElem?_eq_some_iff.1 hg).1
    · rw [add_zero', cell_of_row w g j cur _ (0, 0) hg]
      have hj : (wds xs)[j]? = some (.int .u64 x) := by simp [wds, hx, wd]
      rw [← h4, List.getElem?_take] at hj
      have hlt : j < xs.length := by
        rcases Nat.lt_or_ge j xs.length with q | q
        · exact q
        · rw [List.getElem?_eq_none q] at hx; cases hx
      rw [if_pos (by omega)] at hj
      simpa using hj
theorem Lo.nil (w : World) (n₀ : Nat) : Lo w n₀ (.slice none 0 0) [] := World.ownsRow_nil _ _ _ _
theorem Lo.up {w w' : World} {n₀ : Nat} {v : Value} {xs : List Int} (h : Lo w n₀ v xs) (k : Up w w') : Lo w' n₀ v xs :=
  World.ownsRow.kept h k.gb (by
    cases e : v.ownBlock with
    | none => exact .inl rfl
    | some g => exact .inr (by simp))

theorem Row.below {n₀ : Nat} {w w' : World} {p : Addr} {xs : List Int} (h : Row w p xs) (k : Below n₀ w w') (hp : p.block < n₀) : Row w' p xs :=
  ⟨Nat.lt_of_lt_of_le h.1 k.size, fun j x hx => (Below.cell k (by rw [block_of_add]; exact hp)).trans (h.2 j x hx)⟩
theorem Sits.below {n₀ : Nat} {w w' : World} {m : Me} {p q : Addr} {c d : Nat} (h : Sits w m p q c d) (k : Below n₀ w w') (hp : p.block < n₀) (hq : q.block < n₀) : Sits w' m p q c d :=
  ⟨h.1, h.2.1, h.2.2.1, h.2.2.2.1, h.2.2.2.2.1, h.2.2.2.2.2.1.below k hp, h.2.2.2.2.2.2.below k hq⟩

/-- What a round keeps: what lay below, and blocks of the iterator's kinds. -/
def KpT (n₀ : Nat) (A B : World) : Prop := Below n₀ A B ∧ ∀ g t cs, (t = 33 ∨ t = 25 ∨ t = 3) → Blk A g t cs → Blk B g t cs
theorem KpT.t {n₀ : Nat} {A B C : World} (h : KpT n₀ A B) (k : KpT n₀ B C) : KpT n₀ A C := ⟨h.1.trans k.1, fun g t cs ht hb => k.2 g t cs ht (h.2 g t cs ht hb)⟩
theorem blk_putObj {W : World} {g l : Nat} {t : TypeId} {cs : Array Value} {o : Obj} (o' : Obj) (h : Blk W g t cs) (hl : W.heap[l]? = some o) (ho : o.isCells = false) : Blk (W.putObj l o') g t cs := by
  have hne : g ≠ l := fun e => by
    subst e
    unfold Blk at h
    rw [h] at hl
    cases hl
    cases ho
  exact (World.putObj_heap_other hne).trans h
theorem KpT.b {n₀ : Nat} {w : World} (hn : n₀ ≤ w.heap.size) (W : World) (l : Nat) (o o' : Obj) (hl : w.heap.size ≤ l) (h : W.heap[l]? = some o) (h1 : o.isCells = false) (h2 : o.isWalk = false) : KpT n₀ W (W.putObj l o') :=
  ⟨belowK_b hn W l o o' hl h h1 h2, fun g t cs _ hb => blk_putObj o' hb h h1⟩
theorem KpT.up {n₀ : Nat} {A B : World} (h : Up A B) (hn : n₀ ≤ A.heap.size) : KpT n₀ A B := ⟨h.bel hn, fun g t cs _ hb => hb.up h⟩
theorem blk_of {W : World} {B : Nat} {t : TypeId} {v : Value} (h : Boxed W B t v) : Blk W B t #[v] := h
theorem Blk.ne_type {W : World} {g g' : Nat} {t t' : TypeId} {cs cs' : Array Value} (h : Blk W g t cs) (h' : Blk W g' t' cs') (ht : t ≠ t') : g ≠ g' := fun e => by
  subst e
  unfold Blk at h h'
  rw [h] at h'
  injection h' with h'
  injection h' with _ h'
  exact ht h'
theorem KpT.set_ {n₀ : Nat} {A B : World} (h : KpT n₀ A B) {g i : Nat} {t : TypeId} {cs : Array Value} (hg : n₀ ≤ g) (hb : Blk B g t cs) (ht : t ≠ 33 ∧ t ≠ 25 ∧ t ≠ 3) (u : Value) : KpT n₀ A (B.setCell ⟨g, i, none⟩ u) :=
  ⟨h.1.setCell hg u, fun g' t' cs' ht' hb' => (h.2 g' t' cs' ht' hb').far (fun e => Blk.ne_type (h.2 g' t' cs' ht' hb') hb (fun q => by
    subst q
    rcases ht' with q | q | q
    · exact ht.1 q
    · exact ht.2.1 q
    · exact ht.2.2 q) e) u⟩
/-- Behind an append. -/
theorem blk_app {W w1 : World} {n₀ B : Nat} {t e t' : TypeId} {size k g : Nat} {v v' : Value} {xs : List Value} {tmp : Obj} {cs : Array Value}
    (hv : Boxed W B t v) (hv1 : Boxed w1 B t v) (hrow : W.ownsRow n₀ e size v k xs) (hgrow : (W.alloc tmp).grownBy w1 v.ownBlock) (hg : Blk W g t' cs) (h1 : e ≠ t') (h2 : t' ≠ t) : Blk (w1.setCell ⟨B, 0, none⟩ v') g t' cs := by
  have h3 := (hg.alloc tmp).grown hgrow (own_row_ne hrow hg h1)
  exact h3.far (h3.ne_type (blk_of hv1) h2) v'

/-- The first error that comes. -/
def ers : List Th → Int
  | [] => 0
  | x :: r => if x.e = 0 then ers r else x.e
def pick (wn : Th → Bool) (l : List Th) : List Int := (l.filter wn).map Th.a
theorem ers_all {l : List Th} (h : ∀ x ∈ l, x.e = 0) : ers l = 0 := by
  induction l with
  | nil => rfl
  | cons x r ih => exact (if_pos (h x (by simp))).trans (ih fun y hy => h y (by simp [hy]))
theorem ers_pre {l p : List Th} {x : Th} (h : ∀ y ∈ p, y.e = 0) (hx : x.e ≠ 0) (hl : p ++ [x] <+: l) : ers l = x.e := by
  obtain ⟨r, rfl⟩ := hl
  rw [List.append_assoc]
  induction p with
  | nil => exact if_neg hx
  | cons y q ih => exact (if_pos (h y (by simp))).trans (ih fun z hz => h z (by simp [hz]))
theorem pick_yes {wn : Th → Bool} {l : List Th} {x : Th} (h : wn x = true) : pick wn (l ++ [x]) = pick wn l ++ [x.a] := by simp [pick, List.filter_append, h]
theorem pick_no {wn : Th → Bool} {l : List Th} {x : Th} (h : wn x = false) : pick wn (l ++ [x]) = pick wn l := by simp [pick, List.filter_append, h]

/-- What is told: a row of words, and an error. -/
def Tolds (w : World) (xs : List Int) (er : Int) (e : Ending) (w' : World) : Prop := ∃ v, e = .returned (.tuple #[v, .int .i64 er]) ∧ Lo w' w.heap.size v xs ∧ Up w w'

theorem Up.kf {B : Nat} {a b : World} (h : Up a b) : KeepsFrom B a b := KeepsFrom.of_grownBy h.gb (fun j e => by cases e)
theorem all_snoc {p : List Th} {x : Th} (h : ∀ y ∈ p, y.e = 0) (hx : x.e = 0) : ∀ y ∈ p ++ [x], y.e = 0 := by
  intro y hy
  rcases List.mem_append.1 hy with q | q
  · exact h y q
  · rw [List.mem_singleton.1 q]; exact hx

set_option maxHeartbeats 1000000 in
theorem told_a0 (n : Nat) (P Q : Addr) (c d : Nat) (s lim : Int) (fk : Nat) (w : World) (h : s < 0) :
    Calls Try.prog 26 #[.agg (mcs n P Q c d), .int .i64 s, .int .i64 lim, .func (.func fk) #[] #[]] w (Tolds w [] 1) := by
  have d0 : decide (s < 0) = true := decide_eq_true h
  go_enter Try.func26, Try.ntmps26
  go_wp2
  refine bodyPost_ret (v := .tuple #[.slice none 0 0, .int .i64 1]) (by simp [results, Try.results26, go_sem]) rfl ⟨_, rfl, Lo.nil _ _, ?_⟩
  exact ((((Up.refl w).alloc _).alloc _).alloc _).alloc _

set_option maxHeartbeats 1000000 in
theorem told_a1 (n : Nat) (P Q : Addr) (c d : Nat) (s lim : Int) (fk : Nat) (w : World) (h0 : 0 ≤ s) (h : 2 ≤ s) :
    Calls Try.prog 26 #[.agg (mcs n P Q c d), .int .i64 s, .int .i64 lim, .func (.func fk) #[] #[]] w (Tolds w [] 1) := by
  have d0 : decide (s < 0) = false := decide_eq_false (by omega)
  have d1 : decide (2 ≤ s) = true := decide_eq_true h
  go_enter Try.func26, Try.ntmps26
  go_wp2
  refine bodyPost_ret (v := .tuple #[.slice none 0 0, .int .i64 1]) (by simp [results, Try.results26, go_sem]) rfl ⟨_, rfl, Lo.nil _ _, ?_⟩
  exact ((((Up.refl w).alloc _).alloc _).alloc _).alloc _

set_option maxHeartbeats 1000000 in
theorem told_a2 (n : Nat) (P Q : Addr) (c d : Nat) (s lim : Int) (fk : Nat) (w : World) (h0 : 0 ≤ s) (h1 : s < 2) (h : lim < 0) :
    Calls Try.prog 26 #[.agg (mcs n P Q c d), .int .i64 s, .int .i64 lim, .func (.func fk) #[] #[]] w (Tolds w [] 1) := by
  have d0 : decide (s < 0) = false := decide_eq_false (by omega)
  have d1 : decide (2 ≤ s) = false := decide_eq_false (by omega)
  have d2 : decide (lim < 0) = true := decide_eq_true h
  go_enter Try.func26, Try.ntmps26
  go_wp2
  refine bodyPost_ret (v := .tuple #[.slice none 0 0, .int .i64 1]) (by simp [results, Try.results26, go_sem]) rfl ⟨_, rfl, Lo.nil _ _, ?_⟩
  exact ((((Up.refl w).alloc _).alloc _).alloc _).alloc _

set_option maxHeartbeats 1000000 in
theorem told_a3 (n : Nat) (P Q : Addr) (c d : Nat) (s lim : Int) (fk : Nat) (w : World) (h0 : 0 ≤ s) (h1 : s < 2) (h2 : 0 ≤ lim) (h : (n : Int) < lim) :
    Calls Try.prog 26 #[.agg (mcs n P Q c d), .int .i64 s, .int .i64 lim, .func (.func fk) #[] #[]] w (Tolds w [] 1) := by
  have d0 : decide (s < 0) = false := decide_eq_false (by omega)
  have d1 : decide (2 ≤ s) = false := decide_eq_false (by omega)
  have d2 : decide (lim < 0) = false := decide_eq_false (by omega)
  have d3 : decide ((n : Int) < lim) = true := decide_eq_true h
  go_enter Try.func26, Try.ntmps26
  go_wp2
  refine bodyPost_ret (v := .tuple #[.slice none 0 0, .int .i64 1]) (by simp [results, Try.results26, go_sem]) rfl ⟨_, rfl, Lo.nil _ _, ?_⟩
  exact ((((Up.refl w).alloc _).alloc _).alloc _).alloc _

theorem told_arg (n : Nat) (P Q : Addr) (c d : Nat) (s lim : Int) (fk : Nat) (w : World) (h : ¬ ((s = 0 ∨ s = 1) ∧ 0 ≤ lim ∧ lim ≤ n)) :
    Calls Try.prog 26 #[.agg (mcs n P Q c d), .int .i64 s, .int .i64 lim, .func (.func fk) #[] #[]] w (Tolds w [] 1) := by
  by_cases h0 : s < 0
  · exact told_a0 n P Q c d s lim fk w h0
  by_cases h1 : 2 ≤ s
  · exact told_a1 n P Q c d s lim fk w (by omega) h1
  by_cases h2 : lim < 0
  · exact told_a2 n P Q c d s lim fk w (by omega) (by omega) h2
  · exact told_a3 n P Q c d s lim fk w (by omega) (by omega) (by omega) (by omega)

set_option maxRecDepth 100000 in
set_option maxHeartbeats 4000000 in
theorem told_any (m : Me) (P Q : Addr) (c d : Nat) (s lim : Int) (fk : Nat) (wn : Th → Bool) (w : World) (hm : Sits w m P Q c d) (hwf : m.wf) (hs : s = 0 ∨ s = 1) (hl0 : 0 ≤ lim) (hl1 : lim ≤ m.n) (er : Int) (xs : List Int)
    (hE : ers (m.seqn s lim (lim.toNat + 1) 0) = er) (hX : (if er = 0 then pick wn (m.seqn s lim (lim.toNat + 1) 0) else []) = xs) (hN : (m.seqn s lim (lim.toNat + 1) 0).length ≤ 1000000)
    (hcall : ∀ args w, (callFunc fk args).run Try.prog w = .ok (.enter fk args) w)
    (hw : ∀ (x : Th) (w : World), Calls Try.prog fk #[.agg #[.int .u64 x.a, .int .i64 x.t, .int .i64 x.l, .int .u64 x.m]] w fun e w' => e = .returned (.bool (wn x)) ∧ Up w w') :
    Calls Try.prog 26 #[.agg (mcs m.n P Q c d), .int .i64 s, .int .i64 lim, .func (.func fk) #[] #[]] w (Tolds w xs er) := by
  have d0 : decide (s < 0) = false := decide_eq_false (by omega)
  have d1 : decide (2 ≤ s) = false := decide_eq_false (by omega)
  have d2 : decide (lim < 0) = false := decide_eq_false (by omega)
  have d3 : decide ((m.n : Int) < lim) = false := decide_eq_false (by omega)
  have HM := Lib.hid hm
  have HW := Lib.hid hw
  have HE := Lib.hid hE
  have HX := Lib.hid hX
  have HN := Lib.hid hN
  have HS := Lib.hid hs
  have hP : P.block < w.heap.size := hm.2.2.2.2.2.1.1
  have hQ : Q.block < w.heap.size := hm.2.2.2.2.2.2.1
  obtain ⟨i0, hi, hz0, hz1, hz2⟩ := info_parts info_u64
  clear hm hw hE hX hN hs
  refine (callsIn_wide (n := 5)).1 ?_
  refine callsIn_of_wp_marks Try.func26 rfl trivial ?_ rfl
  simp only [Try.ntmps26, List.size_toArray, List.length_cons, List.length_nil, Nat.reduceAdd, Nat.reduceSub, Array.replicate_succ, Array.replicate_zero, List.push_toArray, List.append_toArray, List.nil_append, List.cons_append]
  gi_wp2_with (refine ⟨trivial, ?_⟩; gi_at_call 42; refine (callsIn_wide.2 (things_any m.n P Q c d s lim _)).mono ?_; rintro e w' ⟨rfl, rfl⟩)
  obtain ⟨W0, hW0⟩ : ∃ W0 : World, W0 = ((((((((w.alloc (.cells (mcs m.n P Q c d) 25)).alloc (.cells #[.func (.func fk) #[] #[]] 62)).alloc (.cells #[.slice none 0 0] 22)).alloc (.cells #[.int .i64 0] 28)).alloc (.cells #[.slice none 0 0] 22)).alloc (.cells (mcs m.n P Q c d) 25)).alloc (.cells #[.int .i64 s] 3)).alloc (.cells #[.int .i64 lim] 3)) := ⟨_, rfl⟩
  have hU0 : Up w W0 := by rw [hW0]; exact ((((((((Up.refl w).alloc _).alloc _).alloc _).alloc _).alloc _).alloc _).alloc _).alloc _
  have hz : W0.heap.size = w.heap.size + 1 + 1 + 1 + 1 + 1 + 1 + 1 + 1 := by rw [hW0]; simp
  have bF : Boxed W0 (w.heap.size + 1) 62 (.func (.func fk) #[] #[]) := by rw [hW0]; exact (((((((Blk.new' _ (by simp) _ _).alloc _).alloc _).alloc _).alloc _).alloc _).alloc _)
  have bR : Boxed W0 (w.heap.size + 1 + 1) 22 (.slice none 0 0) := by rw [hW0]; exact ((((((Blk.new' _ (by simp) _ _).alloc _).alloc _).alloc _).alloc _).alloc _)
  have bE : Boxed W0 (w.heap.size + 1 + 1 + 1) 28 (.int .i64 0) := by rw [hW0]; exact (((((Blk.new' _ (by simp) _ _).alloc _).alloc _).alloc _).alloc _)
  have bL : Boxed W0 (w.heap.size + 1 + 1 + 1 + 1) 22 (.slice none 0 0) := by rw [hW0]; exact ((((Blk.new' _ (by simp) _ _).alloc _).alloc _).alloc _)
  have bM : Blk W0 (w.heap.size + 1 + 1 + 1 + 1 + 1) 25 (mcs m.n P Q c d) := by rw [hW0]; exact (((Blk.new' _ (by simp) _ _).alloc _).alloc _)
  have bS : Blk W0 (w.heap.size + 1 + 1 + 1 + 1 + 1 + 1) 3 #[.int .i64 s] := by rw [hW0]; exact ((Blk.new' _ (by simp) _ _).alloc _)
  have bT : Blk W0 (w.heap.size + 1 + 1 + 1 + 1 + 1 + 1 + 1) 3 #[.int .i64 lim] := by rw [hW0]; exact Blk.new' _ (by simp) _ _
  rw [← hW0]
  clear hW0
  refine wpIn_rangeFunc_ownH rfl (by decide) (gf := 60) (lb := #[bx (w.heap.size + 1 + 1 + 1 + 1 + 1 + 1 + 1), bx (w.heap.size + 1 + 1 + 1 + 1 + 1 + 1), bx (w.heap.size + 1 + 1 + 1 + 1 + 1)]) rfl trivial (enters_of Try.func60 (by kernel_rfl) rfl)
    (things_stops 4 (by decide) m s lim P Q c d (w.heap.size + 1 + 1 + 1 + 1 + 1) (w.heap.size + 1 + 1 + 1 + 1 + 1 + 1) (w.heap.size + 1 + 1 + 1 + 1 + 1 + 1 + 1) W0 (KpT w.heap.size) hwf HS.out hl0 hl1
      (fun A B k h => ⟨⟨k.2 _ _ _ (.inr (.inl rfl)) h.1.1, h.1.2.below k.1 hP hQ⟩, k.2 _ _ _ (.inr (.inr rfl)) h.2.1, k.2 _ _ _ (.inr (.inr rfl)) h.2.2⟩)
      (fun A B g cs k h => k.2 _ _ _ (.inl rfl) h) ⟨⟨bM, HM.out.up hU0⟩, bS, bT⟩) KpT.t (KpT.b hU0.size) (Below.refl _ _) (fun _ => rfl)
    (fun pre W => (((∃ v, Boxed W (w.heap.size + 1 + 1 + 1 + 1) 22 v ∧ W.ownsRow w.heap.size 31 1 v (pick wn pre).length (wds (pick wn pre)) ∧ (∀ y ∈ pre, y.e = 0)) ∧ Boxed W (w.heap.size + 1) 62 (.func (.func fk) #[] #[])) ∧ (Boxed W (w.heap.size + 1 + 1) 22 (.slice none 0 0) ∧ Boxed W (w.heap.size + 1 + 1 + 1) 28 (.int .i64 0))) ∧ Below w.heap.size w W)
    (fun cd pre W => ((∃ p x, cd = .ret ∧ pre = p ++ [x] ∧ (∀ y ∈ p, y.e = 0) ∧ x.e ≠ 0 ∧ Boxed W (w.heap.size + 1 + 1 + 1) 28 (.int .i64 x.e)) ∧ Boxed W (w.heap.size + 1 + 1) 22 (.slice none 0 0)) ∧ Below w.heap.size w W)
    (OwnFrom.and (Own.from (fun pre X Y row hs hg hr => ⟨⟨holdsRow_own w.heap.size (w.heap.size + 1 + 1 + 1 + 1) 22 31 1 (fun pre : List Th => (pick wn pre).length) (fun pre : List Th => wds (pick wn pre)) (fun (pre : List Th) (_ : Value) => ∀ y ∈ pre, y.e = 0) pre X Y row hs.1.1 hg hr,
        boxed_own (w.heap.size + 1) _ (fun (_ : List Th) => Value.func (.func fk) #[] #[]) pre X Y row hs.1.2 hg hr⟩, boxed_own (w.heap.size + 1 + 1) _ (fun (_ : List Th) => Value.slice none 0 0) pre X Y row hs.2.1 hg hr, boxed_own (w.heap.size + 1 + 1 + 1) _ (fun (_ : List Th) => Value.int .i64 0) pre X Y row hs.2.2 hg hr⟩) _) (ownFrom_below (Nat.le_refl _) hU0.size))
    (fun cd => OwnFrom.and (Own.from (fun pre X Y row hs hg hr => ⟨by obtain ⟨p, x, h1, h2, h3, h4, h5⟩ := hs.1; exact ⟨p, x, h1, h2, h3, h4, boxed_own (w.heap.size + 1 + 1 + 1) _ (fun (_ : List Th) => Value.int .i64 x.e) pre X Y row h5 hg hr⟩, boxed_own (w.heap.size + 1 + 1) _ (fun (_ : List Th) => Value.slice none 0 0) pre X Y row hs.2 hg hr⟩) _) (ownFrom_below (Nat.le_refl _) hU0.size))
    ⟨⟨⟨⟨_, bL, World.ownsRow_nil _ _ _ _, fun _ h => by cases h⟩, bF⟩, bR, bE⟩, hU0⟩
    (fun x a' W => ∃ Bx, w.heap.size + 1 + 1 + 1 + 1 < Bx ∧ Blk W Bx 61 #[.int .u64 x.a, .int .i64 x.t, .int .i64 x.l, .int .u64 x.m] ∧ a' = { tmps := #[Value.agg (mcs m.n P Q c d), .int .i64 s, .int .i64 lim, .func (.func fk) #[] #[], bx (w.heap.size), undef, undef, bx (w.heap.size + 1), bx (w.heap.size + 1 + 1), bx (w.heap.size + 1 + 1 + 1), bx (w.heap.size + 1 + 1 + 1 + 1), bx Bx, .int .i64 x.e, .int .i64 s, .bool false, .bool false, .int .i64 s, .bool false, .bool false, .bool false, .int .i64 lim, .bool false, .bool false, .bool false, .int .i64 lim, bx (w.heap.size), .int .i64 m.n, .bool false, .bool false, Value.agg (mcs m.n P Q c d), .int .i64 s, .int .i64 lim, .func (.func 60) #[] #[bx (w.heap.size + 1 + 1 + 1 + 1 + 1 + 1 + 1), bx (w.heap.size + 1 + 1 + 1 + 1 + 1 + 1), bx (w.heap.size + 1 + 1 + 1 + 1 + 1)], .agg #[.int .u64 x.a, .int .i64 x.t, .int .i64 x.l, .int .u64 x.m], .int .i64 x.e, undef, undef, undef, undef, undef, undef, undef, undef, undef, undef, undef, undef], defers := [] })
    (fun x a' _ X Y row hs hg hr => by obtain ⟨Bx, h1, h2, h3⟩ := hs; exact ⟨Bx, h1, own_blkF (β := Unit) _ Bx _ _ () X Y row h2 hg hr, h3⟩)
    ?assign ?body ?done ?stop
  case assign =>
    rintro l pre x W K ⟨⟨⟨⟨v, hv, hrow, hne⟩, hF⟩, hR, hEb⟩, hB⟩ hK
    unfold Th.enc
    gi_wp2
    exact hK _ _ ((KeepsOthers.alloc _ _).from _) (KpT.up ((Up.refl W).alloc _) hB.size) ⟨⟨⟨⟨_, hv.alloc _, hrow.alloc _, hne⟩, hF.alloc _⟩, hR.alloc _, hEb.alloc _⟩, hB.alloc hB.size _⟩ ⟨W.heap.size, by have := hv.lt; omega, Blk.new W _ _, rfl⟩
  case body =>
    rintro l pre x a' W hl ⟨rr, hrr⟩ ⟨⟨⟨⟨v, hv, hrow, hne⟩, hF⟩, hR, hEb⟩, hB⟩ ⟨Bx, hBx, bX, rfl⟩ hlt
    have hNN := HN.out
    have hNl : pre.length < 1000000 := by omega
    have hpl : (pick wn pre).length ≤ pre.length := by unfold pick; rw [List.length_map]; exact List.length_filter_le _ _
    have NE := Lib.hid hne
    have cX := bX.cell
    have cF := hF.cell
    have cR := hR.cell
    have fR := hR.frozen
    have cE := hEb.cell
    have fE := hEb.frozen
    clear hne
    by_cases he : x.e = 0
    · have HE0 := Lib.hid he
      have hb : (x.e != 0) = false := by rw [he]; rfl
      clear he
      cases hwx : wn x
      · have hwx2 := Lib.hid (fun w => by have h := HW.out x w; rw [hwx] at h; exact h)
        have PK := Lib.hid (pick_no (l := pre) hwx)
        clear hwx
        gi_wp2_with (fail)
        refine ⟨trivial, ?_⟩
        refine (CallsIn.inRound l (callsIn_wide.2 (hwx2.out _))).mono ?_
        rintro e w1 ⟨rfl, h1⟩
        gi_wp2
        exact ⟨h1.kf, KpT.up h1 hB.size, ⟨⟨⟨⟨v, Blk.up hv h1, by rw [PK.out]; exact Lo.up hrow h1, all_snoc NE.out HE0.out⟩, Blk.up hF h1⟩, Blk.up hR h1, Blk.up hEb h1⟩, hB.trans (h1.bel hB.size)⟩⟩
      · have hwx2 := Lib.hid (fun w => by have h := HW.out x w; rw [hwx] at h; exact h)
        have PK := Lib.hid (pick_yes (l := pre) hwx)
        clear hwx
        gi_wp2_with (fail)
        refine ⟨trivial, ?_⟩
        refine (CallsIn.inRound l (callsIn_wide.2 (hwx2.out _))).mono ?_
        rintro e w1 ⟨rfl, h1⟩
        have hv1 : Boxed w1 (w.heap.size + 1 + 1 + 1 + 1) 22 v := Blk.up hv h1
        have hrow1 := Lo.up hrow h1
        have hF1 : Boxed w1 (w.heap.size + 1) 62 (.func (.func fk) #[] #[]) := Blk.up hF h1
        have hR1 : Boxed w1 (w.heap.size + 1 + 1) 22 (.slice none 0 0) := Blk.up hR h1
        have hE1 : Boxed w1 (w.heap.size + 1 + 1 + 1) 28 (.int .i64 0) := Blk.up hEb h1
        have bX1c := (bX.up h1).cell
        have hB1 := hB.trans (h1.bel hB.size)
        have K1 := KpT.up h1 hB.size
        have F1 := h1.kf (B := W0.heap.size)
        have hc := hv1.cell
        have hsz := hB1.size
        clear cX cF cR fR cE fE hv hrow hF hR hEb hB bX h1 hrr
        gi_wp2_with (gi_at_builtin; refine wpListIn_append_own _ rfl _ _ 22 rfl w.heap.size 31 i0 (.int .u64 0) 1 8 Try.underlying22 hi hz0 hz1 hz2 rfl (by decide) _ _ _ rfl (World.ownsRow.alloc hrow1 _) ⟨w1.heap.size, 0, none⟩ 1 1 [.int .u64 x.a] rfl rfl (cell_one_new _ _ _) (by simp [Value.oneCell']) (by unfold maxLen; omega) (by omega) (by simp; omega) ?_; intro v' w2 hown' hgrow _; obtain ⟨g', cap', rfl⟩ := ownsRow_succ hown'; obtain ⟨hv2, hv3, hr3, hk3, hb3⟩ := hv1.appended (by decide) hrow1 hB1.size (by omega) hown' hgrow; have hc2 := hv2.cell; have hf2 := hv2.frozen)
        have hFz := blk_app hv1 hv2 hrow1 hgrow hF1 (by decide) (by decide) (v' := .slice (some ⟨g', 0, none⟩) ((pick wn pre).length + 1) cap')
        have hEz := blk_app hv1 hv2 hrow1 hgrow hE1 (by decide) (by decide) (v' := .slice (some ⟨g', 0, none⟩) ((pick wn pre).length + 1) cap')
        have hRz := (Boxed.kept (Boxed.alloc hR1 _) hgrow (Boxed.not_row hR1 (by decide) hrow1)).other (B' := w.heap.size + 1 + 1 + 1 + 1) (by omega) (.slice (some ⟨g', 0, none⟩) ((pick wn pre).length + 1) cap')
        exact ⟨F1.trans (hk3.from _), K1.t ⟨hb3, fun g t cs ht hb => blk_app hv1 hv2 hrow1 hgrow hb (by (rcases ht with rfl | rfl | rfl) <;> decide) (by (rcases ht with rfl | rfl | rfl) <;> decide)⟩,
          ⟨⟨⟨⟨_, hv3, by rw [PK.out]; simpa [wds, wd] using hr3, all_snoc NE.out HE0.out⟩, hFz⟩, hRz, hEz⟩, hB1.trans hb3⟩⟩
    · have HE0 := Lib.hid he
      have hb : (x.e != 0) = true := bne_iff_ne.mpr he
      clear he
      gi_wp2
      exact ⟨((KeepsOthers.setCell _ _ _).from _).trans ((KeepsOthers.setCell _ _ _).from _), ⟨⟨pre, x, rfl, rfl, NE.out, HE0.out, Boxed.set _ (hEb.other (by omega) _)⟩, (hR.set _).other (by omega) _⟩,
        (hB.setCell (p := ⟨w.heap.size + 1 + 1, 0, none⟩) (by simp only []; omega) _).setCell (p := ⟨w.heap.size + 1 + 1 + 1, 0, none⟩) (by simp only []; omega) _⟩
  case done =>
    rintro D zs W hD rfl ⟨⟨⟨⟨v, hv, hrow, hne⟩, hF⟩, hR, hEb⟩, hB⟩ hK
    obtain ⟨A, cap, rfl, q1, q2, q3⟩ := Lo.sl (n₀ := w.heap.size) hrow
    have cL := hv.cell
    have cR := hR.cell
    have fR := hR.frozen
    have cE := hEb.cell
    have fE := hEb.frozen
    gi_wp2
    have hK2 := ((KeepsOthers.setCell W ⟨w.heap.size + 1 + 1, 0, none⟩ (.slice A (pick wn (m.seqn s lim (lim.toNat + 1) 0)).length cap)).trans (KeepsOthers.setCell _ ⟨w.heap.size + 1 + 1 + 1, 0, none⟩ (.int .i64 0))).same D _ hK rfl
    have r2 := World.ownsRow.kept (World.ownsRow.kept hrow (grownBy_setCell' _ (w.heap.size + 1 + 1) (.slice A (pick wn (m.seqn s lim (lim.toNat + 1) 0)).length cap)) (.inr (Boxed.not_row hR (by decide) hrow).symm)) (grownBy_setCell' _ (w.heap.size + 1 + 1 + 1) (.int .i64 0)) (.inr (Boxed.not_row hEb (by decide) hrow).symm)
    have bR2 := blk_putObj (.deferred none) ((hR.set (.slice A (pick wn (m.seqn s lim (lim.toNat + 1) 0)).length cap)).other (B' := w.heap.size + 1 + 1 + 1) (by omega) (.int .i64 0)) hK2 rfl
    have bE2 := blk_putObj (.deferred none) (Boxed.set (.int .i64 0) (hEb.other (B' := w.heap.size + 1 + 1) (by omega) (.slice A (pick wn (m.seqn s lim (lim.toNat + 1) 0)).length cap))) hK2 rfl
    have e0 := ers_all hne
    have e1 := HE.out
    rw [e0] at e1
    subst e1
    have e2 := HX.out
    rw [if_pos rfl] at e2
    subst e2
    have bR2c := bR2.cell
    have bE2c := bE2.cell
    refine ⟨by simp, .inl ⟨_, _, rfl, run_takeDeferred hK2, ?_⟩⟩
    exact ⟨.tuple #[.slice A (pick wn (m.seqn s lim (lim.toNat + 1) 0)).length cap, .int .i64 0], by simp [results, Try.results26, go_sem, bR2c, bE2c], _, rfl, ownsRow_putObj r2 _ hK2 rfl,
      ((hB.setCell (p := ⟨w.heap.size + 1 + 1, 0, none⟩) (by simp only []; omega) _).setCell (p := ⟨w.heap.size + 1 + 1 + 1, 0, none⟩) (by simp only []; omega) _).trans (belowK_b (w := W0) hU0.size _ D _ _ hD hK2 rfl rfl)⟩
  case stop =>
    rintro D cd pre W hD hS ⟨⟨⟨p, x, rfl, rfl, h3, h4, h5⟩, hR⟩, hB⟩ hK
    have cR := hR.cell
    have cE := h5.cell
    have bR2 := blk_putObj (.deferred none) hR hK rfl
    have bE2 := blk_putObj (.deferred none) h5 hK rfl
    have e1 := (ers_pre h3 h4 hS).symm.trans HE.out
    subst e1
    have e2 := HX.out
    rw [if_neg h4] at e2
    subst e2
    have bR2c := bR2.cell
    have bE2c := bE2.cell
    gi_wp2
    refine ⟨by simp, .inl ⟨_, _, rfl, run_takeDeferred hK, ?_⟩⟩
    exact ⟨.tuple #[.slice none 0 0, .int .i64 x.e], by simp [results, Try.results26, go_sem, bR2c, bE2c], _, rfl, Lo.nil _ _,
      hB.trans (belowK_b (w := W0) hU0.size _ D _ _ hD hK rfl rfl)⟩
end Go.Proofs.Ytmjadmoadedghaa
