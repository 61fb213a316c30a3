/- Do all pointers of a space lead to its objects? (package walk's Sound): contracts. -/
import Derived.Test.YtmjadmoadedghaaWk7
namespace Go.Proofs.Ytmjadmoadedghaa
open Go.ChangeShapes Go.WideShapes Go.ChangeAt Go.RowKit Go.Shelf Go.Maps
set_option linter.unusedVariables false
set_option linter.unusedSimpArgs false
attribute [local go_sem] Oper.semAt_some

/-- A map's first entry, where it is made. -/
theorem wpListIn_insert_own {H : Type} {F : Fence} {nF : Nat} {P : Program} (w : World) {ops : Array Oper} {rest : List Oper} {o : Oper} {a : Act} {Q : Exit → Act → World → Prop}
    (hg : o.guard = none) (m x v : Operand) (t : TypeId) (hop : o.op = Op.insert t m x v)
    (k e : TypeId) (K : Keyed P k) (ht : P.underlying t = some (.map k e)) (R : Value → Option (DataW H × List MemPlace)) (b n : Nat) (D : DataW H)
    (hm : a.eval m = .map (some b)) (hown : w.ownsMap P k R b n D) (hn : n < maxLen) (key val : Value) (kl : Lit) (hx : a.eval x = key) (hv : a.eval v = val) (hkey : keyOf P k key = some kl)
    (d : DataW H) (ps : List MemPlace) (hval : R val = some (d, ps))
    (hK : ∀ w', w'.ownsMap P k R b (n + 1) (D.put kl d) → w.grownBy w' (some b) → wpListIn F nF P ops Q rest (a.put o.dst undef) w') :
    wpListIn F nF P ops Q (o :: rest) a w := by
  refine wpListIn_plain hg fun K' hK' => ?_
  obtain ⟨w', hrun, r1, r2⟩ := hown.update K ht hn hkey hval
  unfold Oper.wpIn
  refine ⟨by simp [Oper.about, hop], ?_⟩
  rw [Oper.semAt_plain F _ _ (by rw [hop]; intro c hc'; cases hc')]
  simp [execOp, hop, hm, hx, hv, hrun, Result.andThen]
  exact hK' _ _ (hK w' r1 r2)

/-- Marks of loops over functions are taken up, one by one. -/
def marks (ds : List Nat) : List Deferred := ds.map fun D => { target := .collected D, args := #[] }
theorem leaves_marks {F : Fence} {n : Nat} {P : Program} {fn : Func} {tmps : Array Value} {R : Ending → World → Prop} (J : World → Prop) (B : Nat)
    (hJ : OwnFrom B (fun (_ : Unit) W => J W)) (fin : ∀ W, J W → LeavesInM F n P fn tmps R [] .returning W) :
    ∀ (ds : List Nat) (W : World), ds.Nodup → (∀ D ∈ ds, B ≤ D ∧ W.heap[D]? = some (.deferred (some []))) → J W → LeavesInM F n P fn tmps R (marks ds) .returning W
  | [], W, _, _, h => fin W h
  | D :: ds, W, hn, hd, h => by
    obtain ⟨hB, hD⟩ := hd D (by simp)
    refine ⟨by simp, .inl ⟨_, _, rfl, run_takeDeferred hD, leaves_marks J B hJ fin ds _ (List.nodup_cons.1 hn).2 (fun E hE => ?_) (hJ.putObj (s := ()) _ h hB hD rfl)⟩⟩
    have hne : E ≠ D := fun e => (List.nodup_cons.1 hn).1 (e ▸ hE)
    exact ⟨(hd E (by simp [hE])).1, (World.putObj_heap_other hne).trans (hd E (by simp [hE])).2⟩

/-- What Sound's boxes hold. -/
structure So (m : Me) (P Q : Addr) (c d n₀ Bm Br Bp Bk : Nat) (v : Value) (xs : List Int) (w0 : World) (w : World) (set : List Int) : Prop where
  hm : Box w Bm m P Q c d
  hr : Boxed w Br 4 (.bool false)
  hk : Boxed w Bk 70 (.map (some Bp))
  hp : w.ownsMap Try.prog 31 unitElem Bp set.length (setD set)
  hl : Lo w n₀ v xs
  hb : Below n₀ w0 w
section
variable {m : Me} {P Q : Addr} {c d n₀ Bm Br Bp Bk : Nat} {v : Value} {xs set : List Int} {w0 w w' : World}
theorem lo_keep {w w' : World} {n₀ : Nat} {v : Value} {xs : List Int} (h : Lo w n₀ v xs) {row : Option Nat} (hg : w.grownBy w' row) (hr : ∀ r, row = some r → ∃ o : Obj, w.heap[r]? = some o ∧ o.isCells = false) : Lo w' n₀ v xs := by
  refine World.ownsRow.kept h hg ?_
  cases e : row with
  | none =>
    cases e2 : v.ownBlock with
    | none => exact .inl rfl
    | some g => exact .inr (by simp)
  | some r => exact own_ne_obj h (hr r e)
theorem blk_keep {w w' : World} {g : Nat} {t : TypeId} {cs : Array Value} (h : Blk w g t cs) {row : Option Nat} (hg : w.grownBy w' row) (hr : ∀ r, row = some r → ∃ o : Obj, w.heap[r]? = some o ∧ o.isCells = false) : Blk w' g t cs :=
  h.grown hg (fun e => by
    obtain ⟨o, ho, hc⟩ := hr g e.symm
    unfold Blk at h
    rw [h] at ho
    cases ho
    cases hc)
/-- Whatever is no cells may turn, but for the map. -/
theorem So.keep (h : So m P Q c d n₀ Bm Br Bp Bk v xs w0 w set) (hn : n₀ ≤ w.heap.size) (hP : P.block < n₀) (hQ : Q.block < n₀) {row : Option Nat} (hg : w.grownBy w' row) (hr : ∀ r, row = some r → Bp < r ∧ n₀ ≤ r ∧ ∃ o : Obj, w.heap[r]? = some o ∧ o.isCells = false) : So m P Q c d n₀ Bm Br Bp Bk v xs w0 w' set := by
  have hr2 : ∀ r, row = some r → ∃ o : Obj, w.heap[r]? = some o ∧ o.isCells = false := fun r e => (hr r e).2.2
  have hB : Below n₀ w w' := (Below.refl n₀ w).grown hg hn (fun k e => (hr k e).2.1)
  exact ⟨⟨blk_keep h.hm.1 hg hr2, h.hm.2.below hB hP hQ⟩, blk_keep h.hr hg hr2, blk_keep h.hk hg hr2, h.hp.kept hg (fun e => by have := (hr _ e.symm).1; omega), lo_keep h.hl hg hr2, h.hb.trans hB⟩
theorem So.up (h : So m P Q c d n₀ Bm Br Bp Bk v xs w0 w set) (hn : n₀ ≤ w.heap.size) (k : Up w w') : So m P Q c d n₀ Bm Br Bp Bk v xs w0 w' set :=
  ⟨h.hm.up k, Blk.up h.hr k, Blk.up h.hk k, h.hp.kept k.gb (by simp), h.hl.up k, h.hb.trans (k.bel hn)⟩
/-- An entry of the map. -/
theorem So.put (h : So m P Q c d n₀ Bm Br Bp Bk v xs w0 w set) (hn : n₀ ≤ w.heap.size) (hp : n₀ ≤ Bp) (hP : P.block < n₀) (hQ : Q.block < n₀) {a : Int} (hg : w.grownBy w' (some Bp)) (ho : w'.ownsMap Try.prog 31 unitElem Bp (set.length + 1) ((setD set).put (.int .u64 a) (.agg []))) : So m P Q c d n₀ Bm Br Bp Bk v xs w0 w' (set ++ [a]) := by
  have hb : ∃ o, w.heap[Bp]? = some o ∧ o.isCells = false := by
    obtain ⟨es, clock, hb, _⟩ := h.hp
    exact ⟨_, hb, rfl⟩
  have hr2 : ∀ r, some Bp = some r → ∃ o : Obj, w.heap[r]? = some o ∧ o.isCells = false := fun r e => by cases e; exact hb
  have hB : Below n₀ w w' := (Below.refl n₀ w).grown hg hn (fun k e => by cases e; exact hp)
  exact ⟨⟨blk_keep h.hm.1 hg hr2, h.hm.2.below hB hP hQ⟩, blk_keep h.hr hg hr2, blk_keep h.hk hg hr2, by rw [setD_snoc]; simpa using ho, lo_keep h.hl hg hr2, h.hb.trans hB⟩
end
theorem Lo.rd {w : World} {n₀ : Nat} {A : Option Addr} {k cap : Nat} {xs : List Int} (h : Lo w n₀ (.slice A k cap) xs) : Rd w A k xs := by
  obtain ⟨A', cap', e, _, _, hr⟩ := h.sl
  injection e with e1 e2 e3
  subst e1
  subst e2
  exact hr
/-- All cells are kept. -/
def KpA (n₀ : Nat) (A B : World) : Prop := Below n₀ A B ∧ ∀ g t cs, Blk A g t cs → Blk B g t cs
theorem KpA.t {n₀ : Nat} {A B C : World} (h : KpA n₀ A B) (k : KpA n₀ B C) : KpA n₀ A C := ⟨h.1.trans k.1, fun g t cs hb => k.2 g t cs (h.2 g t cs hb)⟩
theorem KpA.b {n₀ : Nat} {w : World} (hn : n₀ ≤ w.heap.size) (W : World) (l : Nat) (o o' : Obj) (hl : w.heap.size ≤ l) (h : W.heap[l]? = some o) (h1 : o.isCells = false) (h2 : o.isWalk = false) : KpA n₀ W (W.putObj l o') :=
  ⟨belowK_b hn W l o o' hl h h1 h2, fun g t cs hb => blk_putObj o' hb h h1⟩
theorem KpA.up {n₀ : Nat} {A B : World} (h : Up A B) (hn : n₀ ≤ A.heap.size) : KpA n₀ A B := ⟨h.bel hn, fun g t cs hb => hb.up h⟩

/-- Does each pointer of each lead to one of them, or to nothing? -/
def Me.sndb (m : Me) (xs : List Int) : Bool := xs.all fun a => (m.ptv a).all fun b => decide (b ∈ 0 :: xs)
theorem sndb_true {m : Me} {xs : List Int} : m.sndb xs = true ↔ ∀ a ∈ xs, ∀ b ∈ m.ptv a, b ∈ 0 :: xs := by
  unfold Me.sndb
  simp only [List.all_eq_true, decide_eq_true_eq]
def Bool1 (w : World) (b : Bool) (e : Ending) (w' : World) : Prop := e = .returned (.bool b) ∧ Up w w'
def SoRel (m : Me) (P Q : Addr) (c d n₀ Bm Br Bp Bk : Nat) (v : Value) (xs : List Int) (w0 : World) (k : Nat) (i : Value) (wr : World) : Prop :=
  ∃ x : Nat, x ≤ k ∧ i = .int .i64 x ∧ So m P Q c d n₀ Bm Br Bp Bk v xs w0 wr (0 :: xs.take x)

set_option maxHeartbeats 1000000 in
theorem sound_no (m : Me) (P Q : Addr) (c d : Nat) (s lim er : Int) (w : World) (hm : Sits w m P Q c d) (hwf : m.wf) (he : m.tle s lim = er) (h0 : er ≠ 0) :
    Calls Try.prog 21 #[.agg (mcs m.n P Q c d), .int .i64 s, .int .i64 lim] w (Bool1 w false) := by
  have ho := Lib.hid (fun (W : World) (hS : Sits W m P Q c d) => objects_any m P Q c d s lim W hS hwf)
  rw [he] at ho
  have HM := Lib.hid hm
  have hb : (er != 0) = true := bne_iff_ne.mpr h0
  clear hm he h0
  go_enter Try.func21, Try.ntmps21
  go_wp2_with (fail)
  refine (ho.out _ (HM.out.up (((Up.refl w).alloc _).alloc _))).mono ?_
  rintro e w1 ⟨v, rfl, hl, h1⟩
  have R1 : Blk w1 (w.heap.size + 1) 4 #[.bool false] := (Blk.new' (w.alloc (.cells (mcs m.n P Q c d) 25)) (by simp) _ _).up h1
  have U1 : Up w w1 := (((Up.refl w).alloc _).alloc _).trans h1
  have R1c := R1.cell
  have R1f := R1.frozen
  have R1l := R1.lt
  clear h1 hl
  go_wp2
  refine bodyPost_ret (v := .bool false) (by simp [results, Try.results21, go_sem, R1c, R1l, Nat.ne_of_lt R1l]) rfl ⟨rfl, U1.setCell (p := ⟨w.heap.size + 1, 0, none⟩) (by simp only []; omega) _⟩

set_option maxRecDepth 100000 in
set_option maxHeartbeats 8000000 in
theorem sound_is (m : Me) (P Q : Addr) (c d : Nat) (s lim : Int) (xs : List Int) (w : World) (hm : Sits w m P Q c d) (hwf : m.wf) (he : m.tle s lim = 0) (hx : m.tll wObj s lim = xs) (hu : ∀ x ∈ xs, U64 x) (hxl : xs.length ≤ 1000000) :
    Calls Try.prog 21 #[.agg (mcs m.n P Q c d), .int .i64 s, .int .i64 lim] w (Bool1 w (m.sndb xs)) := by
  have ho := Lib.hid (fun (W : World) (hS : Sits W m P Q c d) => objects_any m P Q c d s lim W hS hwf)
  rw [he, hx] at ho
  have HM := Lib.hid hm
  have HU := Lib.hid hu
  have hP : P.block < w.heap.size := hm.2.2.2.2.2.1.1
  have hQ : Q.block < w.heap.size := hm.2.2.2.2.2.2.1
  have hmm := @run_makeMap Try.prog
  have hkey0 := key_of u64_0
  clear hm he hx hu
  refine (callsIn_wide (n := 5)).1 ?_
  refine callsIn_of_wp_marks Try.func21 rfl trivial ?_ rfl
  simp only [Try.ntmps21, List.size_toArray, List.length_cons, List.length_nil, Nat.reduceAdd, Nat.reduceSub, Array.replicate_succ, Array.replicate_zero, List.push_toArray, List.append_toArray, List.nil_append, List.cons_append]
  gi_wp2_with (fail)
  refine ⟨trivial, ?_⟩
  refine (callsIn_wide.2 (ho.out _ (HM.out.up (((Up.refl w).alloc _).alloc _)))).mono ?_
  rintro e w1 ⟨v, rfl, hl, h1⟩
  have M1 : Blk w1 w.heap.size 25 (mcs m.n P Q c d) := ((Blk.new' w rfl _ _).alloc _).up h1
  have R1 : Blk w1 (w.heap.size + 1) 4 #[.bool false] := (Blk.new' (w.alloc (.cells (mcs m.n P Q c d) 25)) (by simp) _ _).up h1
  have U1 : Up w w1 := (((Up.refl w).alloc _).alloc _).trans h1
  have L1 : Lo w1 w.heap.size v xs := Lo.le hl (by simp; omega)
  obtain ⟨A, cap, rfl, hcap, hcapm, hrd⟩ := L1.sl
  have hmade := World.ownsMap_made w1 Try.prog 31 (unitElem (H := Unit))
  have hw1 : w.heap.size + 1 < w1.heap.size := R1.lt
  clear h1 hl
  gi_wp2_with (first
    | (gi_at_mapUpdate; fail)
    | (refine wpListIn_insert_own _ rfl _ _ _ 70 rfl 31 72 law64 Try.underlying70 unitElem w1.heap.size 0 (.map []) rfl hmade (by unfold maxLen; omega) _ _ (.int .u64 0) rfl rfl hkey0 (.agg []) [] unitElem_mk ?_; intro w2 hown2 hgrow2))
  have U2 : Below w.heap.size w w2 := Below.trans (Up.alloc U1 (.map #[] 0)) ((Below.refl w.heap.size _).grown hgrow2 (by simp; omega) (fun k e => by cases e; omega))
  have hz2 : w1.heap.size < w2.heap.size := by have := hgrow2.size; simp at this; omega
  have S2 : So m P Q c d w.heap.size w.heap.size (w.heap.size + 1) w1.heap.size w2.heap.size (.slice A xs.length cap) xs w (w2.alloc (.cells #[.map (some w1.heap.size)] 70)) [0] := by
    have hr2 : ∀ r, some w1.heap.size = some r → ∃ o : Obj, (w1.alloc (.map #[] 0)).heap[r]? = some o ∧ o.isCells = false := fun r e => by cases e; exact ⟨_, World.alloc_heap_new w1 _, rfl⟩
    refine ⟨⟨(blk_keep (M1.alloc _) hgrow2 hr2).alloc _, HM.out.up (Up.alloc U2 _)⟩, (blk_keep (R1.alloc _) hgrow2 hr2).alloc _, Blk.new _ _ _, ?_, (lo_keep (World.ownsRow.alloc L1 _) hgrow2 hr2).up ((Up.refl _).alloc _), Up.alloc U2 _⟩
    exact hown2.alloc _
  clear M1 R1 U1 L1 hmade hown2 hgrow2 U2
  have HS2 := Lib.hid S2
  clear S2 hrd
  gi_loopw [31] (fun i wr => SoRel m P Q c d w.heap.size w.heap.size (w.heap.size + 1) w1.heap.size w2.heap.size (.slice A xs.length cap) xs w xs.length i wr) (fun i _ => xs.length - (intOf i).toNat)
  case atStart => exact ⟨0, Nat.zero_le _, rfl, HS2.out⟩
  case round =>
    clear HS2
    obtain ⟨x, hxk, rfl, hSo⟩ := hrel
    have hwr : w.heap.size ≤ wr.heap.size := hSo.hb.size
    by_cases hlt : x < xs.length
    · obtain ⟨p, rfl, hcp⟩ := hSo.hl.rd.at_ hlt
      have ha : U64 (xs.getD x 0) := HU.out _ (by simp [List.getD, List.getElem?_eq_getElem hlt])
      have T : Hid (0 :: xs.take (x + 1) = (0 :: xs.take x) ++ [xs.getD x 0]) := Lib.hid (by rw [take_snoc' hlt]; rfl)
      generalize xs.getD x 0 = a at hcp ha T
      have hkey := key_of ha
      have hkc := hSo.hk.cell
      have hp := hSo.hp
      have hlen : (0 :: xs.take x).length ≤ 1000001 := by simp [List.length_take]; omega
      have HSo := Lib.hid hSo
      generalize hset : 0 :: xs.take x = set at hp hlen T HSo
      clear ha hSo hset
      gi_wp2_with (gi_at_mapUpdate; refine wpListIn_mapUpdate_own _ rfl _ _ _ 70 rfl 31 72 law64 Try.underlying70 unitElem w1.heap.size set.length (setD set) rfl hp (by unfold maxLen; omega) _ _ (.int .u64 a) rfl rfl hkey (.agg []) [] unitElem_mk ?_; intro w3 hown3 hgrow3)
      go_roundw
      case rel => exact ⟨x + 1, by omega, by go_num, by rw [T.out]; exact HSo.out.put hwr (by omega) hP hQ hgrow3 hown3⟩
      case measure => simp [intOf]; omega
    · obtain rfl : x = xs.length := by omega
      rw [List.take_of_length_le (Nat.le_refl _)] at hSo
      have HSo := Lib.hid hSo
      clear hSo
      gi_wp2_with (fail)
      -- loop 2
      refine wpIn_loop (fun a' W => ∃ (x : Nat) (ds : List Nat) (v13 v42 v43 v44 v45 v46 v47 v57 : Value), a' = { tmps := #[Value.agg (mcs m.n P Q c d), .int .i64 s, .int .i64 lim, bx w.heap.size, undef, undef, bx (w.heap.size + 1), .slice A xs.length cap, .int .i64 0, bx w2.heap.size, undef, u11, undef, v13, undef, undef, undef, .tuple #[.slice A xs.length cap, .int .i64 0], Value.agg (mcs m.n P Q c d), .int .i64 s, .int .i64 lim, .tuple #[.slice A xs.length cap, .int .i64 0], .slice A xs.length cap, .int .i64 0, .int .i64 0, .bool false, .map (some w1.heap.size), .agg #[], .map (some w1.heap.size), .slice A xs.length cap, .int .i64 xs.length, .int .i64 xs.length, .bool false, u33, u34, u35, u36, u37, u38, .slice A xs.length cap, .int .i64 xs.length, .int .i64 x, v42, v43, v44, v45, v46, v47, undef, undef, undef, undef, undef, undef, undef, undef, undef, v57], defers := marks ds } ∧ x ≤ xs.length ∧ So m P Q c d w.heap.size w.heap.size (w.heap.size + 1) w1.heap.size w2.heap.size (.slice A xs.length cap) xs w W (0 :: xs) ∧ (∀ a ∈ xs.take x, ∀ b ∈ m.ptv a, b ∈ 0 :: xs) ∧ ds.Nodup ∧ ∀ D ∈ ds, w2.heap.size < D ∧ W.heap[D]? = some (.deferred (some []))) (fun a' _ => xs.length - (intOf (a'.tmps.getD 41 undef)).toNat) ⟨0, [], _, _, _, _, _, _, _, _, rfl, Nat.zero_le _, HSo.out, (fun a h => by cases h), List.nodup_nil, (fun D h => by cases h)⟩ ?_
      rintro a' W ⟨x, ds, v13, v42, v43, v44, v45, v46, v47, v57, rfl, hxk, hSo, hdn, hnd, hds⟩
      clear HSo hwr wr
      have hWr : w.heap.size ≤ W.heap.size := hSo.hb.size
      have hk2 := hSo.hk.lt
      have HDN := Lib.hid hdn
      have HND := Lib.hid hnd
      have HDS := Lib.hid hds
      clear hdn hnd hds
      by_cases hlt : x < xs.length
      · obtain ⟨p, rfl, hcp⟩ := hSo.hl.rd.at_ hlt
        have ha : U64 (xs.getD x 0) := HU.out _ (by simp [List.getD, List.getElem?_eq_getElem hlt])
        have T : Hid (xs.take (x + 1) = xs.take x ++ [xs.getD x 0]) := Lib.hid (take_snoc' hlt)
        have M : Hid (xs.getD x 0 ∈ xs) := Lib.hid (by simp [List.getD, List.getElem?_eq_getElem hlt])
        generalize xs.getD x 0 = a at hcp ha T M
        have HA := Lib.hid ha
        have hmc := hSo.hm.1.cell
        have HSo := Lib.hid hSo
        clear ha hSo
        gi_wp2_with (refine ⟨trivial, ?_⟩; gi_at_call 36; refine (callsIn_wide.2 (pointers_any m.n P Q c d a _)).mono ?_; rintro e w' ⟨rfl, rfl⟩)
        obtain ⟨W5, hW5⟩ : ∃ W5, (W.alloc (.cells (mcs m.n P Q c d) 25)).alloc (.cells #[.int .u64 a] 31) = W5 := ⟨_, rfl⟩
        have U5 : Up W W5 := by rw [← hW5]; exact ((Up.refl W).alloc _).alloc _
        have hz5 : W5.heap.size = W.heap.size + 1 + 1 := by rw [← hW5]; simp
        have bM : Blk W5 W.heap.size 25 (mcs m.n P Q c d) := by rw [← hW5]; exact (Blk.new' _ (by simp) _ _).alloc _
        have bA : Blk W5 (W.heap.size + 1) 31 #[.int .u64 a] := by rw [← hW5]; exact Blk.new' _ (by simp) _ _
        have S5 := HSo.out.up hWr U5
        have hq2 : W.heap.size < W5.heap.size := by omega
        have D5 : ∀ D ∈ ds, W5.heap[D]? = some (.deferred (some [])) := fun D hD => (U5.block _ (lt_of_get (HDS.out D hD).2)).trans (HDS.out D hD).2
        have D5l : ∀ D ∈ ds, D < W5.heap.size := fun D hD => lt_of_get (D5 D hD)
        have HD5l := Lib.hid D5l
        rw [hW5]
        clear hW5 hz5 hcp D5l
        have hmk : OwnFrom W5.heap.size (fun (_ : List Nat) V => ∀ D ∈ ds, V.heap[D]? = some (.deferred (some []))) := fun pre V V' row hs hg hr D hD =>
          (hg.block D (lt_of_get (hs D hD)) (fun e => by have := (hr D e.symm).1; have := HD5l.out D hD; omega)).trans (hs D hD)
        have hOwn : OwnFrom W5.heap.size (fun (pre : List Nat) V => (So m P Q c d w.heap.size w.heap.size (w.heap.size + 1) w1.heap.size w2.heap.size (.slice (some p) xs.length cap) xs w V (0 :: xs) ∧ (∀ i ∈ pre, (m.ptv a).getD i 0 ∈ 0 :: xs)) ∧ ∀ D ∈ ds, V.heap[D]? = some (.deferred (some []))) :=
          OwnFrom.and (fun pre V V' row hs hg hr => ⟨hs.1.keep hs.1.hb.size hP hQ hg (fun r e => ⟨by have := (hr r e).1; omega, by have := (hr r e).1; omega, (hr r e).2⟩), hs.2⟩) hmk
        have hOwx : ∀ cd : Code, OwnFrom W5.heap.size (fun (pre : List Nat) V => ((cd = .ret ∧ (∃ i ∈ pre, (m.ptv a).getD i 0 ∉ 0 :: xs)) ∧ (Boxed V (w.heap.size + 1) 4 (.bool false) ∧ Below w.heap.size w V)) ∧ ∀ D ∈ ds, V.heap[D]? = some (.deferred (some []))) := fun cd =>
          OwnFrom.and (fun pre V V' row hs hg hr => ⟨hs.1, boxed_own (w.heap.size + 1) _ (fun (_ : List Nat) => Value.bool false) pre V V' row hs.2.1 hg (fun r e => (hr r e).2), ownFrom_below (β := List Nat) (Nat.le_refl _) (by omega) pre V V' row hs.2.2 hg hr⟩) hmk
        refine wpIn_rangeFunc_ownG rfl (by decide) (gf := 56) (lb := #[bx W.heap.size, bx (W.heap.size + 1)]) rfl trivial (enters_of Try.func56 (by kernel_rfl) rfl)
          (pointers_stops 4 (by decide) m a P Q c d W.heap.size (W.heap.size + 1) W5 (KpA w.heap.size) (fun V => Box V W.heap.size m P Q c d ∧ Blk V (W.heap.size + 1) 31 #[.int .u64 a]) hwf HA.out
            (fun X Y h k => ⟨h.1.up k, h.2.up k⟩)
            (fun X Y h k => ⟨⟨k.2 _ _ _ h.1.1, h.1.2.below k.1 hP hQ⟩, k.2 _ _ _ h.2⟩)
            (fun X h => h) (fun X Y g cs h k hb => k.2 _ _ _ hb) ⟨⟨bM, S5.hm.2⟩, bA⟩)
          KpA.t (KpA.b (by omega)) (Below.refl _ _) (fun _ => rfl)
          (fun (pre : List Nat) V => (So m P Q c d w.heap.size w.heap.size (w.heap.size + 1) w1.heap.size w2.heap.size (.slice (some p) xs.length cap) xs w V (0 :: xs) ∧ (∀ i ∈ pre, (m.ptv a).getD i 0 ∈ 0 :: xs)) ∧ ∀ D ∈ ds, V.heap[D]? = some (.deferred (some [])))
          (fun cd (pre : List Nat) V => ((cd = .ret ∧ (∃ i ∈ pre, (m.ptv a).getD i 0 ∉ 0 :: xs)) ∧ (Boxed V (w.heap.size + 1) 4 (.bool false) ∧ Below w.heap.size w V)) ∧ ∀ D ∈ ds, V.heap[D]? = some (.deferred (some [])))
          hOwn hOwx ⟨⟨S5, fun i h => by cases h⟩, D5⟩
          (fun y => { tmps := #[Value.agg (mcs m.n P Q c d), .int .i64 s, .int .i64 lim, bx w.heap.size, undef, undef, bx (w.heap.size + 1), .slice (some p) xs.length cap, .int .i64 0, bx w2.heap.size, undef, u11, undef, .int .u64 a, .int .u64 ((m.ptv a).getD y 0), undef, undef, .tuple #[.slice (some p) xs.length cap, .int .i64 0], Value.agg (mcs m.n P Q c d), .int .i64 s, .int .i64 lim, .tuple #[.slice (some p) xs.length cap, .int .i64 0], .slice (some p) xs.length cap, .int .i64 0, .int .i64 0, .bool false, .map (some w1.heap.size), .agg #[], .map (some w1.heap.size), .slice (some p) xs.length cap, .int .i64 xs.length, .int .i64 xs.length, .bool false, u33, u34, u35, u36, u37, u38, .slice (some p) xs.length cap, .int .i64 xs.length, .int .i64 x, .bool true, .pointer (some (p.add x)), .int .u64 a, Value.agg (mcs m.n P Q c d), .int .u64 a, .func (.func 56) #[] #[bx W.heap.size, bx (W.heap.size + 1)], .int .u64 ((m.ptv a).getD y 0), undef, undef, undef, undef, undef, undef, undef, undef, v57], defers := [] })
          ?assign ?body ?done ?stop
        case assign =>
          intro l y V K hK
          dsimp only at hK ⊢
          generalize (m.ptv a).getD y 0 = b at hK ⊢
          gi_wp2
          exact hK
        case body =>
          rintro l pre y V ⟨⟨hSv, hall⟩, hmv⟩ _
          have hby : U64 ((m.ptv a).getD y 0) := getD_u64 (ptv_u64 hwf a) y
          have HB : Hid (∀ i ∈ pre ++ [y], (m.ptv a).getD i 0 ∈ 0 :: xs ∨ i = y) := Lib.hid (fun i hi => by
            rcases List.mem_append.1 hi with q | q
            · exact .inl (hall i q)
            · exact .inr (List.mem_singleton.1 q))
          have HY : Hid (y ∈ pre ++ [y]) := Lib.hid (by simp)
          have hkey := key_of hby
          have hkc := hSv.hk.cell
          have hp := hSv.hp
          have hVs := hSv.hb.size
          have HV := Lib.hid hSv
          have HMV := Lib.hid hmv
          clear hSv hall hmv hby
          have hhas := setD_has (0 :: xs) ((m.ptv a).getD y 0)
          by_cases hin : (m.ptv a).getD y 0 ∈ 0 :: xs
          · rw [decide_eq_true hin] at hhas
            have HI : Hid (∀ i ∈ pre ++ [y], (m.ptv a).getD i 0 ∈ 0 :: xs) := Lib.hid (fun i hi => by
              rcases HB.out i hi with q | q
              · exact q
              · rw [q]; exact hin)
            clear hin HB HY
            generalize (m.ptv a).getD y 0 = b at hhas hkey
            gi_wp2_with (gi_at_lookup; refine wpListIn_lookup_own_unit _ rfl _ _ 70 rfl 31 72 law64 Try.underlying70 (zeroS _) w1.heap.size (0 :: xs).length (setD (0 :: xs)) rfl hp _ _ rfl hkey ?_; rw [hhas])
            exact ⟨((Up.refl V).alloc _).kf, KpA.up ((Up.refl V).alloc _) hVs, ⟨HV.out.up hVs ((Up.refl V).alloc _), HI.out⟩, fun D hD => (((Up.refl V).alloc _).block _ (lt_of_get (HMV.out D hD))).trans (HMV.out D hD)⟩
          · rw [decide_eq_false hin] at hhas
            have HI : Hid (∃ i ∈ pre ++ [y], (m.ptv a).getD i 0 ∉ 0 :: xs) := Lib.hid ⟨y, HY.out, hin⟩
            clear hin HB HY
            generalize (m.ptv a).getD y 0 = b at hhas hkey
            have hrc := HV.out.hr.cell
            have hrf := HV.out.hr.frozen
            have hrl := HV.out.hr.lt
            gi_wp2_with (gi_at_lookup; refine wpListIn_lookup_own_unit _ rfl _ _ 70 rfl 31 72 law64 Try.underlying70 (zeroS _) w1.heap.size (0 :: xs).length (setD (0 :: xs)) rfl hp _ _ rfl hkey ?_; rw [hhas])
            have kk := (KeepsOthers.setCell V ⟨w.heap.size + 1, 0, none⟩ (.bool false)).trans (KeepsOthers.alloc _ (.cells #[] 72))
            exact ⟨kk.from _, ⟨⟨rfl, HI.out⟩, (Boxed.set _ HV.out.hr).alloc _, (HV.out.hb.setCell (p := ⟨w.heap.size + 1, 0, none⟩) (by simp only []; omega) _).alloc (by simpa using hVs) _⟩, fun D hD => kk.same D _ (HMV.out D hD) rfl⟩
        case done =>
          rintro D zs V hD rfl hI hK
          obtain ⟨⟨hSv, hall⟩, hmv⟩ := hI
          have HV := Lib.hid hSv
          have HMV := Lib.hid hmv
          have HAL := Lib.hid hall
          have HK := Lib.hid hK
          clear hSv hmv hall hK
          gi_wp2
          refine ⟨⟨x + 1, D :: ds, _, _, _, _, _, _, _, _, rfl, by omega, HV.out, ?_, List.nodup_cons.2 ⟨fun q => by have := HD5l.out D q; omega, HND.out⟩, ?_⟩, by simp [intOf]; omega⟩
          · intro a2 ha2 b hb
            rw [T.out] at ha2
            rcases List.mem_append.1 ha2 with q | q
            · exact HDN.out a2 q b hb
            · rw [List.mem_singleton.1 q] at hb
              obtain ⟨i, hi, rfl⟩ := List.getElem_of_mem hb
              have := HAL.out i (by simpa using hi)
              simpa [List.getD, List.getElem?_eq_getElem hi] using this
          · intro E hE
            rcases List.mem_cons.1 hE with rfl | q
            · exact ⟨by omega, HK.out⟩
            · exact ⟨(HDS.out E q).1, HMV.out E q⟩
        case stop =>
          rintro D cd pre V hD hpre ⟨⟨⟨rfl, i, hi, hni⟩, hbx, hB⟩, hmv⟩ hK
          have hf : m.sndb xs = false := by
            cases h : m.sndb xs
            · rfl
            · have h2 := List.mem_range.1 (hpre.subset hi)
              have := sndb_true.1 h a M.out ((m.ptv a)[i]) (List.getElem_mem h2)
              exact absurd (by simpa [List.getD, List.getElem?_eq_getElem h2] using this) hni
          have HF := Lib.hid hf
          clear hf
          gi_wp2
          refine leaves_marks (fun V => Boxed V (w.heap.size + 1) 4 (.bool false) ∧ Below w.heap.size w V) (w.heap.size + 2) (OwnFrom.and (Own.from (boxed_own (w.heap.size + 1) _ (fun (_ : Unit) => Value.bool false)) _) (ownFrom_below (Nat.le_refl _) (by omega))) (fun V hV => ?_) (D :: ds) V (List.nodup_cons.2 ⟨fun q => by have := HD5l.out D q; omega, HND.out⟩) ?_ ⟨hbx, hB⟩
          · have c1 := (blk_of hV.1).cell
            have l1 := (blk_of hV.1).lt
            exact ⟨.bool false, by simp [results, Try.results21, go_sem, c1, l1], by rw [HF.out], hV.2⟩
          · intro E hE
            rcases List.mem_cons.1 hE with rfl | q
            · exact ⟨by omega, hK⟩
            · exact ⟨by have := (HDS.out E q).1; omega, hmv E q⟩
      · obtain rfl : x = xs.length := by omega
        have ht : m.sndb xs = true := sndb_true.2 (fun a ha b hb => HDN.out a (by rw [List.take_of_length_le (Nat.le_refl _)]; exact ha) b hb)
        have HT := Lib.hid ht
        have hrc := hSo.hr.cell
        have hrf := hSo.hr.frozen
        have hrl := hSo.hr.lt
        have HSo := Lib.hid hSo
        clear hSo ht
        gi_wp2
        refine leaves_marks (fun V => Boxed V (w.heap.size + 1) 4 (.bool true) ∧ Below w.heap.size w V) (w.heap.size + 2) (OwnFrom.and (Own.from (boxed_own (w.heap.size + 1) _ (fun (_ : Unit) => Value.bool true)) _) (ownFrom_below (Nat.le_refl _) (by omega))) (fun V hV => ?_) ds _ HND.out (fun E hE => ⟨by have := (HDS.out E hE).1; omega, (KeepsOthers.setCell _ _ _).same E _ (HDS.out E hE).2 rfl⟩) ⟨Boxed.set _ HSo.out.hr, HSo.out.hb.setCell (p := ⟨w.heap.size + 1, 0, none⟩) (by simp only []; omega) _⟩
        have c1 := (blk_of hV.1).cell
        have l1 := (blk_of hV.1).lt
        exact ⟨.bool true, by simp [results, Try.results21, go_sem, c1, l1], by rw [HT.out], hV.2⟩
end Go.Proofs.Ytmjadmoadedghaa
