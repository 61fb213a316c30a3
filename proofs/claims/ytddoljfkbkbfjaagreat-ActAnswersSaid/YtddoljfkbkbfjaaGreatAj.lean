/- The document's Has, Pointers; plain facts of what is reached. -/
import Derived.Test.YtddoljfkbkbfjaaGreatAi
/-! Of stage 6 -/
namespace Go.Proofs.YtddoljfkbkbfjaaGreat
open Go.ChangeShapes Go.WideShapes Go.ChangeAt Go.RowKit Go.Shelf Go.Maps
set_option linter.unusedVariables false
set_option linter.unusedSimpArgs false
attribute [local go_sem] Oper.semAt_some

/-- A map's first entry, where it is made. -/
theorem wpListIn_insert_own {H : Type} {F : Fence} {nF : Nat} {P : Program} (w : World) {ops : Array Oper} {rest : List Oper} {o : Oper} {a : Act} {Q : Exit → Act → World → Prop}
    (hg : o.guard = none) (m x v : Operand) (t : TypeId) (hop : o.op = Op.insert t m x v)
    (k e : TypeId) (K : Keyed P k) (ht : P.underlying t = some (.map k e)) (R : Value → Option (DataW H × List MemPlace)) (b n : Nat) (D : DataW H)
    (hm : a.eval m = .map (some b)) (hown : w.ownsMap P k R b n D) (hn : n < maxLen) (key val : Value) (kl : Lit) (hx : a.eval x = key) (hv : a.eval v = val) (hkey : keyOf P k key = some kl)
    (d : DataW H) (ps : List MemPlace) (hval : R val = some (d, ps))
    (hK : ∀ w', w'.ownsMap P k R b (n + 1) (D.put kl d) → w.grownBy w' (some b) → wpListIn F nF P ops Q rest (a.put o.dst undef) w') :
    wpListIn F nF P ops Q (o :: rest) a w := by
  refine wpListIn_plain hg fun K' hK' => ?_
  obtain ⟨w', hrun, r1, r2⟩ := hown.update K ht hn hkey hval
  unfold Oper.wpIn
  refine ⟨by simp [Oper.about, hop], ?_⟩
  rw [Oper.semAt_plain F _ _ (by rw [hop]; intro c hc'; cases hc')]
  simp [execOp, hop, hm, hx, hv, hrun, Result.andThen]
  exact hK' _ _ (hK w' r1 r2)

/-- Marks of loops over functions are taken up, one by one. -/
def marks (ds : List Nat) : List Deferred := ds.map fun D => { target := .collected D, args := #[] }
theorem leaves_marks {F : Fence} {n : Nat} {P : Program} {fn : Func} {tmps : Array Value} {R : Ending → World → Prop} (J : World → Prop) (B : Nat)
    (hJ : OwnFrom B (fun (_ : Unit) W => J W)) (fin : ∀ W, J W → LeavesInM F n P fn tmps R [] .returning W) :
    ∀ (ds : List Nat) (W : World), ds.Nodup → (∀ D ∈ ds, B ≤ D ∧ W.heap[D]? = some (.deferred (some []))) → J W → LeavesInM F n P fn tmps R (marks ds) .returning W
  | [], W, _, _, h => fin W h
  | D :: ds, W, hn, hd, h => by
    obtain ⟨hB, hD⟩ := hd D (by simp)
    refine ⟨by simp, .inl ⟨_, _, rfl, run_takeDeferred hD, leaves_marks J B hJ fin ds _ (List.nodup_cons.1 hn).2 (fun E hE => ?_) (hJ.putObj (s := ()) _ h hB hD rfl)⟩⟩
    have hne : E ≠ D := fun e => (List.nodup_cons.1 hn).1 (e ▸ hE)
    exact ⟨(hd E (by simp [hE])).1, (World.putObj_heap_other hne).trans (hd E (by simp [hE])).2⟩

section
variable {m : Me} {P Q : Addr} {c d n₀ Bm Br Bp Bk : Nat} {v : Value} {xs set : List Int} {w0 w w' : World}
theorem lo_keep {w w' : World} {n₀ : Nat} {v : Value} {xs : List Int} (h : Lo w n₀ v xs) {row : Option Nat} (hg : w.grownBy w' row) (hr : ∀ r, row = some r → ∃ o : Obj, w.heap[r]? = some o ∧ o.isCells = false) : Lo w' n₀ v xs := by
  refine World.ownsRow.kept h hg ?_
  cases e : row with
  | none =>
    cases e2 : v.ownBlock with
    | none => exact .inl rfl
    | some g => exact .inr (by simp)
  | some r => exact own_ne_obj h (hr r e)
theorem blk_keep {w w' : World} {g : Nat} {t : TypeId} {cs : Array Value} (h : Blk w g t cs) {row : Option Nat} (hg : w.grownBy w' row) (hr : ∀ r, row = some r → ∃ o : Obj, w.heap[r]? = some o ∧ o.isCells = false) : Blk w' g t cs :=
  h.grown hg (fun e => by
    obtain ⟨o, ho, hc⟩ := hr g e.symm
    unfold Blk at h
    rw [h] at ho
    cases ho
    cases hc)
end
theorem Lo.rd {w : World} {n₀ : Nat} {A : Option Addr} {k cap : Nat} {xs : List Int} (h : Lo w n₀ (.slice A k cap) xs) : Rd w A k xs := by
  obtain ⟨A', cap', e, _, _, hr⟩ := h.sl
  injection e with e1 e2 e3
  subst e1
  subst e2
  exact hr
/-- All cells are kept. -/
def KpA (n₀ : Nat) (A B : World) : Prop := Below n₀ A B ∧ ∀ g t cs, Blk A g t cs → Blk B g t cs
theorem KpA.t {n₀ : Nat} {A B C : World} (h : KpA n₀ A B) (k : KpA n₀ B C) : KpA n₀ A C := ⟨h.1.trans k.1, fun g t cs hb => k.2 g t cs (h.2 g t cs hb)⟩
theorem KpA.b {n₀ : Nat} {w : World} (hn : n₀ ≤ w.heap.size) (W : World) (l : Nat) (o o' : Obj) (hl : w.heap.size ≤ l) (h : W.heap[l]? = some o) (h1 : o.isCells = false) (h2 : o.isWalk = false) : KpA n₀ W (W.putObj l o') :=
  ⟨belowK_b hn W l o o' hl h h1 h2, fun g t cs hb => blk_putObj o' hb h h1⟩
theorem KpA.up {n₀ : Nat} {A B : World} (h : Up A B) (hn : n₀ ≤ A.heap.size) : KpA n₀ A B := ⟨h.bel hn, fun g t cs hb => hb.up h⟩

/-- Does each pointer of each lead to one of them, or to nothing? -/
def Me.sndb (m : Me) (xs : List Int) : Bool := xs.all fun a => (m.ptv a).all fun b => decide (b ∈ 0 :: xs)
theorem sndb_true {m : Me} {xs : List Int} : m.sndb xs = true ↔ ∀ a ∈ xs, ∀ b ∈ m.ptv a, b ∈ 0 :: xs := by
  unfold Me.sndb
  simp only [List.all_eq_true, decide_eq_true_eq]
def Bool1 (w : World) (b : Bool) (e : Ending) (w' : World) : Prop := e = .returned (.bool b) ∧ Up w w'

end Go.Proofs.YtddoljfkbkbfjaaGreat
/-! Of stage 6 -/
namespace Go.Proofs.YtddoljfkbkbfjaaGreat
open Go.ChangeShapes Go.WideShapes Go.ChangeAt Go.RowKit
set_option linter.unusedVariables false
set_option linter.unusedSimpArgs false

theorem mem_take_snoc {xs : List Int} {x : Nat} {a : Int} (h : x < xs.length) : a ∈ xs.take (x + 1) ↔ a ∈ xs.take x ∨ a = xs.getD x 0 := by
  rw [take_snoc' h]
  simp
set_option maxHeartbeats 1000000 in
theorem rhas_any (A : Option Addr) (k cap : Nat) (xs : List Int) (a : Int) (w : World) (hx : Rd w A k xs) (hk : k ≤ maxLen) :
    Calls Tryz.prog 61 #[.slice A k cap, .int .u64 a] w fun e w' => e = .returned (.bool (decide (a ∈ xs))) ∧ w = w' := by
  have HX := Lib.hid hx
  have Lx := Lib.hid hx.1
  unfold maxLen at hk
  generalize hB : decide (a ∈ xs) = bo
  have HB := Lib.hid hB
  clear hx hB
  go_enter Tryz.func61, Tryz.ntmps61
  go_wp2
  go_loop [5] (fun i => ∃ x : Nat, x ≤ k ∧ i = .int .i64 x ∧ a ∉ xs.take x) (fun i => k - (intOf i).toNat)
  case atStart => exact ⟨0, Nat.zero_le _, rfl, by simp⟩
  case round =>
    obtain ⟨x, hxk, rfl, hni⟩ := hrel
    have HN := Lib.hid hni
    clear hni
    by_cases hlt : x < k
    · obtain ⟨p, rfl, hcp⟩ := HX.out.at_ hlt
      have hlx : x < xs.length := by rw [Lx.out]; exact hlt
      have M := Lib.hid (mem_take_snoc (a := a) hlx)
      by_cases he : xs.getD x 0 = a
      · have HT : Hid (a ∈ xs) := Lib.hid (List.mem_of_mem_take (M.out.2 (.inr he.symm)))
        have hb : (xs.getD x 0 == a) = true := beq_iff_eq.2 he
        generalize xs.getD x 0 = b at hcp hb
        clear he M
        go_wp2
        go_ret
        exact ⟨by rw [← HB.out, decide_eq_true HT.out]; rfl, rfl⟩
      · have HT : Hid (a ∉ xs.take (x + 1)) := Lib.hid (fun q => by
          rcases M.out.1 q with q | q
          · exact HN.out q
          · exact he q.symm)
        have hb : (xs.getD x 0 == a) = false := beq_eq_false_iff_ne.2 he
        generalize xs.getD x 0 = b at hcp hb
        clear he M
        go_wp2
        go_round
        case rel => exact ⟨x + 1, by omega, by go_num, HT.out⟩
        case measure => simp [intOf]; omega
    · obtain rfl : x = k := by omega
      go_wp2
      go_ret
      have h := HN.out
      rw [List.take_of_length_le (by rw [Lx.out]; exact Nat.le_refl _)] at h
      exact ⟨by rw [← HB.out, decide_eq_false h]; rfl, rfl⟩

/-! ### An object's pointers -/
theorem range_flt {p : Nat → Bool} {n : Nat} (h : ∀ i, p i = true → i < n) (k : Nat) : (List.range (n + k)).filter p = (List.range n).filter p := by
  induction k with
  | zero => rfl
  | succ k ih =>
    rw [← Nat.add_assoc, List.range_succ, List.filter_append, ih]
    have : p (n + k) = false := by
      cases hp : p (n + k)
      · rfl
      · have := h _ hp; omega
    simp [this]
theorem range_flt2 {p : Nat → Bool} {n k : Nat} (h : ∀ i, p i = true → i < n) (h2 : ∀ i, p i = true → i < k) : (List.range k).filter p = (List.range n).filter p := by
  rcases Nat.le_total n k with q | q
  · obtain ⟨d, rfl⟩ := Nat.le.dest q
    exact range_flt h d
  · obtain ⟨d, rfl⟩ := Nat.le.dest q
    exact (range_flt h2 d).symm
theorem pts_is (l m : Int) (hm : 0 ≤ m) (hm1 : m ≤ 65535) : pts l m = (List.range l.toNat).filter fun i : Nat => ptb l m i := by
  unfold pts fst
  refine range_flt2 (fun i h => ?_) (fun i h => ?_)
  · unfold ptb at h
    simp only [Bool.and_eq_true, decide_eq_true_eq] at h
    omega
  · unfold ptb at h
    simp only [Bool.and_eq_true, decide_eq_true_eq, beq_iff_eq] at h
    have h2 := h.2.2
    have hl := len_lt m.toNat (by omega)
    by_cases hi : i < Lib.bitLen m.toNat
    · exact hi
    · have hp : (2 : Nat) ^ Lib.bitLen m.toNat ≤ 2 ^ i := Nat.pow_le_pow_right (by decide) (by omega)
      have hp2 : m < ((2 ^ i : Nat) : Int) := by omega
      have hz : m / 2 ^ i = 0 := by
        have : ((2 : Int) ^ i) = ((2 ^ i : Nat) : Int) := by simp
        rw [this]
        exact Int.ediv_eq_zero_of_lt hm hp2
      simp only [Int.toNat_natCast] at h2
      rw [hz] at h2
      cases h2
/-- The first fields that are pointers. -/
def ptk (l m : Int) (x : Nat) : List Nat := (List.range x).filter fun i : Nat => ptb l m i
theorem ptk_yes {l m : Int} {x : Nat} (h : ptb l m x = true) : ptk l m (x + 1) = ptk l m x ++ [x] := by simp [ptk, List.range_succ, h]
theorem ptk_no {l m : Int} {x : Nat} (h : ptb l m x = false) : ptk l m (x + 1) = ptk l m x := by simp [ptk, List.range_succ, h]
theorem ptk_len (l m : Int) (x : Nat) : (ptk l m x).length ≤ x := by
  unfold ptk
  have := List.length_filter_le (fun i : Nat => ptb l m i) (List.range x)
  simpa using this
/-- A row of places of fields. -/
def Loi (w : World) (n₀ : Nat) (v : Value) (xs : List Nat) : Prop := w.ownsRow n₀ 3 1 v xs.length (xs.map fun x : Nat => Value.int .i64 x)
def PkRel (l m t : Int) (w : World) (u3 i : Value) (wr : World) : Prop :=
  ∃ x : Nat, (x : Int) ≤ l ∧ i = .int .i64 x ∧ Loi wr w.heap.size u3 (ptk l m x) ∧ Below w.heap.size w wr ∧ Blk wr w.heap.size 60 (hcs t l m)
set_option maxHeartbeats 4000000 in
theorem rptrs_any (t l m : Int) (hl0 : 0 ≤ l) (hl1 : l ≤ 62) (hm : 0 ≤ m) (hm1 : m ≤ 65535) (w : World) :
    Calls Tryz.prog 66 #[hdv t l m] w fun e w' => ∃ v, e = .returned v ∧ Loi w' w.heap.size v (pts l m) ∧ Up w w' := by
  have hp := Lib.hid (fun (i : Int) (w : World) => rptr_any t l m i hm (by omega) hl1 w)
  have HE : Hid (pts l m = ptk l m l.toNat) := Lib.hid (pts_is l m hm hm1)
  obtain ⟨i0, hi, hz0, hz1, hz2⟩ := info_parts info_int
  clear hm hm1
  go_enter Tryz.func66, Tryz.ntmps66
  go_wp2
  go_loopw [3, 4] (fun u3 i wr => PkRel l m t w u3 i wr) (fun _ i _ => l.toNat - (intOf i).toNat)
  case atStart => exact ⟨0, hl0, rfl, World.ownsRow_nil _ _ _ _, (Up.refl w).alloc _, Blk.new w _ _⟩
  case round =>
    obtain ⟨x, hx, rfl, hlo, hB, hH⟩ := hrel
    have hHc := hH.cell
    have hsz := hB.size
    by_cases hlt : (x : Int) < l
    · have hpx := Lib.hid (fun w => hp.out (x : Int) w)
      have hlen := ptk_len l m x
      generalize hb : ptb l m x = b at hpx
      cases b
      · have PK := Lib.hid (ptk_no hb)
        clear hb
        have HLO := Lib.hid hlo
        clear hlo
        go_wp2_with (fail)
        refine (hpx.out _).mono ?_
        rintro e w1 ⟨rfl, h1⟩
        have H1 := Lib.hid (hH.up h1)
        have B1 := Lib.hid (hB.trans (Below.mono h1 hsz))
        have L1 : Hid (Loi w1 w.heap.size u3 (ptk l m x)) := Lib.hid (World.ownsRow.kept HLO.out h1.gb (by cases e : u3.ownBlock with | none => exact .inl rfl | some g => exact .inr (by simp)))
        clear h1 hH hB hHc HLO
        go_wp2
        refine ⟨⟨x + 1, by omega, by go_num, by rw [PK.out]; exact L1.out, B1.out, H1.out⟩, by simp [intOf]; omega⟩
      · have PK := Lib.hid (ptk_yes hb)
        clear hb
        have HLO := Lib.hid hlo
        clear hlo
        go_wp2_with (fail)
        refine (hpx.out _).mono ?_
        rintro e w1 ⟨rfl, h1⟩
        have H1 := hH.up h1
        have B1 := hB.trans (Below.mono h1 hsz)
        have L1 : w1.ownsRow w.heap.size 3 1 u3 (ptk l m x).length ((ptk l m x).map fun x : Nat => Value.int .i64 x) := World.ownsRow.kept HLO.out h1.gb (by cases e : u3.ownBlock with | none => exact .inl rfl | some g => exact .inr (by simp))
        have hs1 := B1.size
        clear h1 hH hB hHc HLO
        go_wp2_with (at_builtin; refine wpList_append_own_at _ rfl _ _ 29 rfl w.heap.size 3 i0 (.int .i64 0) 1 8 Tryz.underlying29 hi hz0 hz1 hz2 rfl (by decide) _ _ _ rfl (L1.alloc _) ⟨w1.heap.size, 0, none⟩ 1 1 [.int .i64 x] rfl rfl (cell_one_new _ _ _) (by simp [Value.oneCell']) (by unfold maxLen; omega) (by omega) (by simp; omega) ?_; intro v' w2 hown' hgrow _ hloc; obtain ⟨g', cap', rfl⟩ := ownsRow_succ hown')
        have hg2 : (w1.alloc (.cells #[.int .i64 x] 3)).grownBy w2 u3.ownBlock := hgrow
        refine ⟨⟨x + 1, by omega, by go_num, ?_, ?_, ?_⟩, by simp [intOf]; omega⟩
        · rw [PK.out]
          unfold Loi
          simpa using hown'
        · refine B1.trans (((Below.refl w.heap.size w1).alloc hs1 _).grown hg2 (by simp; omega) (fun k e => ?_))
          exact (World.ownsRow.lt L1 k e).1
        · exact (H1.alloc _).grown hg2 (own_row_ne L1 H1 (by decide))
    · obtain ⟨y, rfl⟩ : ∃ y : Nat, l = y := ⟨l.toNat, by omega⟩
      obtain rfl : x = y := by omega
      go_wp2
      go_ret
      exact ⟨u3, rfl, by rw [HE.out]; exact hlo, hB⟩

theorem loi_rd {w : World} {n₀ : Nat} {v : Value} {xs : List Nat} (h : Loi w n₀ v xs) : ∃ A cap, v = .slice A xs.length cap ∧ RdI w A xs := lst_rd h
def PvRel (m : Me) (P Q : Addr) (c d : Nat) (a : Int) (A : Option Addr) (ps : List Nat) (w : World) (u8 i : Value) (wr : World) : Prop :=
  ∃ x : Nat, x ≤ ps.length ∧ i = .int .i64 x ∧ Lo wr w.heap.size u8 ((ps.take x).map fun i : Nat => m.getv a i) ∧ Below w.heap.size w wr ∧ Blk wr w.heap.size 25 (mcs m.n P Q c d) ∧ RdI wr A ps
set_option maxRecDepth 100000 in
set_option maxHeartbeats 4000000 in
theorem rpointers_any (m : Me) (P Q : Addr) (c d : Nat) (a : Int) (w : World) (hm : Sits w m P Q c d) (ha : U64 a) (hwf : m.wf) (hk : m.kne a = 0) :
    Calls Tryz.prog 91 #[.agg (mcs m.n P Q c d), .int .u64 a] w (fun e w' => ∃ v, e = .returned v ∧ Lo w' w.heap.size v (m.ptv a) ∧ Up w w') := by
  have hat := fun (W : World) (hS : Sits W m P Q c d) => rat_any m a P Q c d W hS ha hwf
  rw [ate_0.2 (kne_0.1 hk).1] at hat
  have hat := Lib.hid hat
  have hpt := Lib.hid (fun w => rptrs_any (m.att a) (m.atl a) (m.atm a) (kne_inn hk).2 (by have := atl_16 hk; omega) (atm_nn m a) (atm_65535 m a) w)
  have hgt := Lib.hid (fun (i : Nat) (hi : i ∈ pts (m.atl a) (m.atm a)) (W : World) (hS : Sits W m P Q c d) => by
    have h := rget_any m a i P Q c d W hS ha hwf
    rw [gete_0.2 (pts_fok hi)] at h
    exact h)
  have HPV : Hid (m.ptv a = (pts (m.atl a) (m.atm a)).map fun i : Nat => m.getv a i) := Lib.hid rfl
  obtain ⟨ps, hps⟩ : ∃ ps, pts (m.atl a) (m.atm a) = ps := ⟨_, rfl⟩
  have hb16 : ps.length ≤ 16 := by rw [← hps]; exact pts_len _ _ (atm_nn m a) (atm_65535 m a)
  rw [hps] at hgt HPV hpt
  have HM := Lib.hid hm
  have hP : P.block < w.heap.size := hm.2.2.2.2.2.1.1
  have hQ : Q.block < w.heap.size := hm.2.2.2.2.2.2.1
  obtain ⟨i0, hi, hz0, hz1, hz2⟩ := info_parts info_u64
  generalize m.att a = t at hat hpt
  generalize m.atl a = lo at hat hpt
  generalize m.atm a = mp at hat hpt
  clear hps hm ha hk
  go_enter Tryz.func91, Tryz.ntmps91
  go_wp2_with (fail)
  refine (hat.out _ (HM.out.up ((Up.refl w).alloc _))).mono ?_
  rintro e w1 ⟨rfl, h1⟩
  have M1 := ((Blk.new w 25 (mcs m.n P Q c d)).up h1).alloc (.cells (hcs t lo mp) 60)
  have U1 := (((Up.refl w).alloc (.cells (mcs m.n P Q c d) 25)).trans h1).alloc (.cells (hcs t lo mp) 60)
  have H1c := (Blk.new w1 60 (hcs t lo mp)).cell
  clear h1 hat
  go_wp2_with (fail)
  refine (hpt.out _).mono ?_
  rintro e w2 ⟨v, rfl, hrow, h2⟩
  obtain ⟨A, cap, rfl, hrd⟩ := loi_rd hrow
  have M2 := Lib.hid (M1.up h2)
  have U2 := Lib.hid (U1.trans h2)
  have R2 := Lib.hid hrd
  clear M1 U1 H1c h2 hpt hrow hrd
  go_wp2_with (fail)
  go_loopw [8, 9] (fun u8 i wr => PvRel m P Q c d a A ps w u8 i wr) (fun _ i _ => ps.length - (intOf i).toNat)
  case atStart => exact ⟨0, Nat.zero_le _, rfl, Lo.nil _ _, U2.out, M2.out, R2.out⟩
  case round =>
    clear M2 U2 R2
    obtain ⟨x, hx, rfl, hlo, hB, hMb, hRd⟩ := hrel
    have hsz := hB.size
    by_cases hlt : x < ps.length
    · have hRd0 := hRd
      obtain ⟨g, cs, rfl, hbk, hcs⟩ := hRd (by omega)
      have hcx := hcs x ps[x] (List.getElem?_eq_getElem hlt)
      have hgx := hgt.out _ (List.getElem_mem hlt)
      have T : Hid (ps.take (x + 1) = ps.take x ++ [ps[x]]) := Lib.hid (List.take_succ_eq_append_getElem hlt)
      generalize ps[x] = i at hgx T hcx
      obtain ⟨W0, hW0⟩ : ∃ W0 : World, W0 = wr.drew := ⟨_, rfl⟩
      have UW : Up wr W0 := by rw [hW0]; exact (Up.refl wr).drew
      have U0 : Up W0 wr.drew := by rw [hW0]; exact Up.refl _
      have B0 : Below w.heap.size w W0 := hB.trans (Below.mono UW hsz)
      have hgz := Lib.hid (fun (V : World) (hU : Up W0 V) => hgx V ((HM.out.up B0).up hU))
      have M0 := hMb.up UW
      have K0 := hbk.up UW
      have hK0 : Hid (cs[x]? = some (.int .i64 (i : Nat))) := Lib.hid hcx
      have L0 := Lib.hid (hlo.up UW)
      have R0 := Lib.hid (hRd0.to (fun g cs hb => hb.up UW))
      have B1 := Lib.hid B0
      have hs0 : Hid (w.heap.size ≤ W0.heap.size) := Lib.hid B0.size
      clear hW0 hgx hcs hcx hlo hB hMb hRd hRd0 hbk UW B0 hsz
      go_wp2_with (fail)
      go_region_held3 (fun w' => (∀ i, w'.cell? ⟨w.heap.size, i, none⟩ = (mcs m.n P Q c d : Array Value)[i]?) ∧ w'.cell? ⟨g, x, none⟩ = some (.int .i64 (i : Nat)))
        (exact ⟨fun i => (Blk.up M0 (by assumption)).cell i, ((Blk.up K0 (by assumption)).cell x).trans hK0.out⟩)
        (first
          | (go_at_call 35; ((with_reducible refine (hgz.out _ (by assumption)).mono ?_); rintro e w3 ⟨rfl, h3⟩; have UZ := Up.trans (a := W0) (by assumption) h3)))
      have B3 := B1.out.trans (Below.mono UZ hs0.out)
      have M3 := M0.up UZ
      have R3 := Lib.hid (R0.out.to (fun g cs hb => hb.up UZ))
      have L3 := L0.out.up UZ
      have hs3 := B3.size
      have EL : ((ps.take x).map fun i : Nat => m.getv a i).length ≤ 16 := by simp; omega
      have T2 : Hid ((ps.take (x + 1)).map (fun i : Nat => m.getv a i) = ((ps.take x).map fun i : Nat => m.getv a i) ++ [m.getv a (i : Nat)]) := Lib.hid (by rw [T.out]; simp)
      generalize m.getv a (i : Nat) = b at T2 ⊢
      generalize hl : ((ps.take x).map fun i : Nat => m.getv a i) = ls at L3 EL T2
      clear hl UZ h3 L0 M0 R0 B1 K0 hgz T U0
      go_wp2_with (at_builtin; refine wpList_append_own_at _ rfl _ _ 22 rfl w.heap.size 54 i0 (.int .u64 0) 1 8 Tryz.underlying22 hi hz0 hz1 hz2 rfl (by decide) _ _ _ rfl (World.ownsRow.alloc L3 _) ⟨w3.heap.size, 0, none⟩ 1 1 [.int .u64 b] rfl rfl (cell_one_new _ _ _) (by simp [Value.oneCell']) (by unfold maxLen; omega) (by omega) (by simp; omega) ?_; intro v' w4 hown' hgrow _ hloc; obtain ⟨g', cap', rfl⟩ := ownsRow_succ hown')
      have hg2 : (w3.alloc (.cells #[.int .u64 b] 54)).grownBy w4 u8.ownBlock := hgrow
      refine ⟨⟨x + 1, by omega, by go_num, ?_, ?_, ?_, ?_⟩, by simp [intOf]; omega⟩
      · rw [T2.out]
        unfold Lo
        simpa [wds, wd] using hown'
      · refine B3.trans (((Below.refl w.heap.size w3).alloc hs3 _).grown hg2 (by simp; omega) (fun k e => (World.ownsRow.lt L3 k e).1))
      · exact (M3.alloc _).grown hg2 (own_row_ne L3 M3 (by decide))
      · exact R3.out.to (fun g cs hb => (hb.alloc _).grown hg2 (own_row_ne L3 hb (by decide)))
    · obtain rfl : x = ps.length := by omega
      have HLO := Lib.hid hlo
      clear hlo
      go_wp2
      go_ret
      exact ⟨u8, rfl, by have h := HLO.out; rw [List.take_of_length_le (Nat.le_refl _)] at h; rw [HPV.out]; exact h, hB⟩

end Go.Proofs.YtddoljfkbkbfjaaGreat
/-! Of stage 6 -/
namespace Go.Proofs.YtddoljfkbkbfjaaGreat
open Go.Joins Go.ChangeShapes Go.WideShapes Go.ChangeAt Go.RowKit Go.Deep
set_option linter.unusedVariables false
set_option linter.unusedSimpArgs false

/-! ### What is told -/
/-- Objects stand side by side from a place to another. -/
def Me.chn (m : Me) (s : Int) : List Int → Int → Int → Prop
  | [], p, q => p = q
  | a :: r, p, q => a = adr s p ∧ m.ate a = 0 ∧ 0 ≤ p ∧ p < q ∧ m.chn s r (p + m.wsz a) q
theorem seqn_chn {m : Me} {s lim : Int} : ∀ (f : Nat) (p : Int), 0 ≤ p → p ≤ lim → (lim - p).toNat < f → ers (m.seqn s lim f p) = 0 → m.chn s (pick wAll (m.seqn s lim f p)) p lim ∧ ∀ x ∈ m.seqn s lim f p, x.e = 0 ∧ ∃ q, 0 ≤ q ∧ q < lim ∧ x.a = adr s q ∧ m.ate x.a = 0 ∧ x.t = m.att x.a
  | 0, p, _, _, h, _ => by omega
  | f + 1, p, h0, h1, hf, he => by
    by_cases hlt : p < lim
    · by_cases hk : m.wne (adr s p) (lim - p) = 0
      · rw [seqn_yes hlt hk] at he ⊢
        obtain ⟨k1, k2⟩ := wne_0.1 hk
        have k3 := wsz_small k1
        obtain ⟨i1, i2⟩ := seqn_chn f (p + m.wsz (adr s p)) (by omega) (by omega) (by omega) ((if_pos rfl).symm.trans he)
        refine ⟨⟨rfl, k1, h0, hlt, i1⟩, fun x hx => ?_⟩
        rcases List.mem_cons.1 hx with rfl | hx
        · exact ⟨rfl, p, h0, hlt, rfl, k1, rfl⟩
        · exact i2 x hx
      · rw [seqn_no hlt hk] at he
        exact absurd ((if_neg hk).symm.trans he) hk
    · rw [seqn_end (by omega)]
      exact ⟨show p = lim by omega, fun x hx => by cases hx⟩
theorem tle_vld {m : Me} {s lim : Int} (h : m.tle s lim = 0) : m.vld s lim ∧ ers (m.sq s lim) = 0 := by
  by_cases hv : m.vld s lim
  · exact ⟨hv, (if_pos hv).symm.trans h⟩
  · rw [show m.tle s lim = 1 from if_neg hv] at h
    cases h
theorem tll_is {m : Me} {s lim : Int} (wn : Th → Bool) (h : m.tle s lim = 0) : m.tll wn s lim = pick wn (m.sq s lim) := if_pos h
theorem tll_no {m : Me} {s lim : Int} (wn : Th → Bool) (h : m.tle s lim ≠ 0) : m.tll wn s lim = [] := if_neg h
theorem all_chn {m : Me} {s lim : Int} (h : m.tle s lim = 0) : m.chn s (m.tll wAll s lim) 0 lim := by
  obtain ⟨hv, he⟩ := tle_vld h
  rw [tll_is _ h]
  exact (seqn_chn (lim.toNat + 1) 0 (Int.le_refl 0) hv.2.1 (by omega) he).1
theorem sq_facts {m : Me} {s lim : Int} (h : m.tle s lim = 0) : ∀ x ∈ m.sq s lim, x.e = 0 ∧ ∃ q, 0 ≤ q ∧ q < lim ∧ x.a = adr s q ∧ m.ate x.a = 0 ∧ x.t = m.att x.a := by
  obtain ⟨hv, he⟩ := tle_vld h
  exact (seqn_chn (lim.toNat + 1) 0 (Int.le_refl 0) hv.2.1 (by omega) he).2
theorem tll_mem {m : Me} {s lim : Int} {wn : Th → Bool} {a : Int} (h : a ∈ m.tll wn s lim) : m.tle s lim = 0 ∧ ∃ x ∈ m.sq s lim, wn x = true ∧ x.a = a := by
  by_cases he : m.tle s lim = 0
  · rw [tll_is _ he] at h
    obtain ⟨x, hx, rfl⟩ := List.mem_map.1 h
    obtain ⟨h1, h2⟩ := List.mem_filter.1 hx
    exact ⟨he, x, h1, h2, rfl⟩
  · rw [tll_no _ he] at h
    cases h
theorem tll_u64 {m : Me} {s lim : Int} {wn : Th → Bool} (hn : m.n ≤ 4096) : ∀ a ∈ m.tll wn s lim, U64 a := by
  intro a ha
  obtain ⟨he, x, hx, _, rfl⟩ := tll_mem ha
  obtain ⟨_, q, q0, q1, e, _⟩ := sq_facts he x hx
  obtain ⟨hv, _⟩ := tle_vld he
  have := hv.2.2
  rw [e]
  exact adr_u64 hv.1 q0 (by omega)
theorem tll_len (m : Me) (s lim : Int) (wn : Th → Bool) (hn : m.n ≤ 4096) : (m.tll wn s lim).length ≤ 4097 := by
  by_cases he : m.tle s lim = 0
  · rw [tll_is _ he]
    obtain ⟨hv, _⟩ := tle_vld he
    have h1 := seqn_len m s lim (lim.toNat + 1) 0
    have h2 := hv.2.2
    unfold pick
    rw [List.length_map]
    refine Nat.le_trans (List.length_filter_le _ _) ?_
    unfold Me.sq
    omega
  · rw [tll_no _ he]
    exact Nat.zero_le _
theorem obj_real {m : Me} {s lim a : Int} (h : a ∈ m.tll wObj s lim) : m.real a = true := by
  obtain ⟨he, x, hx, hw, rfl⟩ := tll_mem h
  obtain ⟨_, q, _, _, _, ha, ht⟩ := sq_facts he x hx
  unfold wObj at hw
  refine decide_eq_true (kne_0.2 ⟨ate_0.1 ha, fun q => ?_⟩)
  rw [ht, q] at hw
  cases hw
/-- Objects are all but fillers. -/
theorem obj_flt {m : Me} {s lim : Int} : m.tll wObj s lim = (m.tll wAll s lim).filter fun a => m.att a != 255 := by
  by_cases he : m.tle s lim = 0
  · rw [tll_is _ he, tll_is _ he]
    have hf := sq_facts he
    generalize m.sq s lim = l at hf
    unfold pick
    induction l with
    | nil => rfl
    | cons x r ih =>
      have hx := (hf x (by simp)).2
      obtain ⟨_, _, _, _, _, ht⟩ := hx
      have ih := ih (fun y hy => hf y (by simp [hy]))
      simp only [List.filter_cons, wAll, if_true, List.map_cons]
      cases hb : (m.att x.a != 255)
      · have : wObj x = false := by unfold wObj; rw [ht]; simpa using hb
        rw [this]
        simpa [wAll] using ih
      · have : wObj x = true := by unfold wObj; rw [ht]; simpa using hb
        rw [this]
        simp only [if_true, List.map_cons]
        rw [ih]
  · rw [tll_no _ he, tll_no _ he]
    rfl
/-- How many words all have. -/
def Me.wsum (m : Me) : List Int → Int
  | [] => 0
  | a :: r => m.wsz a + m.wsum r
theorem wsum_snoc (m : Me) (l : List Int) (a : Int) : m.wsum (l ++ [a]) = m.wsum l + m.wsz a := by
  induction l with
  | nil => simp [Me.wsum]
  | cons b r ih => simp only [List.cons_append, Me.wsum, ih]; omega
theorem ow_fw {m : Me} {a : Int} (h : m.ate a = 0) : m.ow a + m.fw a = m.wsz a := by
  unfold Me.ow Me.fw
  by_cases k : m.att a = 255
  · simp [h, k]
  · simp [h, k]
theorem chn_facts {m : Me} {s : Int} : ∀ (l : List Int) (p q : Int), m.chn s l p q → m.wsum l = q - p ∧ m.ows l + m.fws l = q - p ∧ p ≤ q ∧ (0 ≤ p → ∀ x, x < l.length → l.getD x 0 = adr s (p + m.wsum (l.take x)) ∧ m.ate (l.getD x 0) = 0 ∧ 0 ≤ m.wsum (l.take x) ∧ p + m.wsum (l.take x) < q)
  | [], p, q, h => by
    obtain rfl : p = q := h
    exact ⟨by simp [Me.wsum], by simp [Me.ows, Me.fws], Int.le_refl _, fun _ x hx => by simp at hx⟩
  | a :: r, p, q, h => by
    obtain ⟨rfl, h1, h2, h3, h4⟩ := h
    obtain ⟨i1, i2, i3, i4⟩ := chn_facts r _ q h4
    have hs := wsz_small h1
    have hf := ow_fw h1
    refine ⟨by simp only [Me.wsum]; omega, by simp only [Me.ows, Me.fws]; omega, by omega, fun hp x hx => ?_⟩
    cases x with
    | zero => exact ⟨by simp [Me.wsum], by simpa using h1, by simp [Me.wsum], by simp [Me.wsum]; omega⟩
    | succ x =>
      obtain ⟨j1, j2, j3, j4⟩ := i4 (by omega) x (by simpa using hx)
      refine ⟨?_, ?_, ?_, ?_⟩
      · simp only [List.getD_cons_succ, List.take_succ_cons, Me.wsum]
        rw [j1]
        congr 1
        omega
      · simpa using j2
      · simp only [List.take_succ_cons, Me.wsum]; omega
      · simp only [List.take_succ_cons, Me.wsum]; omega
/-- Up to a place that is an end: the beginning of what is told up to a later one. -/
theorem chn_pre {m : Me} {s : Int} : ∀ (l l' : List Int) (p a b : Int), a ≤ b → m.chn s l p a → m.chn s l' p b → l <+: l'
  | [], l', _, _, _, _, _, _ => List.nil_prefix
  | x :: r, [], p, a, b, hab, ⟨_, _, _, h3, _⟩, h' => by
    have : p = b := h'
    omega
  | x :: r, y :: r', p, a, b, hab, ⟨e, _, _, _, h4⟩, ⟨e', _, _, _, h4'⟩ => by
    subst e
    subst e'
    rw [List.prefix_cons_inj]
    exact chn_pre r r' _ a b hab h4 h4'
theorem ows_flt (m : Me) (l : List Int) : m.ows (l.filter fun a => m.att a != 255) = m.ows l := by
  induction l with
  | nil => rfl
  | cons a r ih =>
    simp only [List.filter_cons]
    by_cases h : m.att a = 255
    · have e : (m.att a != 255) = false := by simp [h]
      rw [e]
      have : m.ow a = 0 := if_neg (fun q => q.2 h)
      simp only [Bool.false_eq_true, if_false, Me.ows, this, ih]
      omega
    · have e : (m.att a != 255) = true := by simp [h]
      rw [e]
      simp only [if_true, Me.ows, ih]

/-! ### What is reached -/
theorem fold_all {g : List Int → Int → List Int} {R : List Int → Prop} {T : Int → Prop} (h : ∀ o p, R o → T p → R (g o p)) : ∀ (ps : List Int) (o : List Int), R o → (∀ p ∈ ps, T p) → R (ps.foldl g o)
  | [], o, ho, _ => ho
  | p :: r, o, ho, hp => fold_all h r (g o p) (h o p ho (hp p (by simp))) (fun q hq => hp q (by simp [hq]))
/-- What is reached stays among what is closed. -/
theorem vis_in {m : Me} {S : Int → Prop} (hS : ∀ a, S a → ∀ b ∈ m.ptv a, m.real b = true → S b) : ∀ (f : Nat) (a : Int) (out : List Int), (∀ x ∈ out, S x) → (m.real a = true → S a) → ∀ x ∈ m.vis f a out, S x
  | 0, _, _, ho, _ => ho
  | f + 1, a, out, ho, ha => by
    unfold Me.vis
    split
    · rename_i h
      refine fold_all (R := fun o => ∀ x ∈ o, S x) (T := fun b => m.real b = true → S b) (fun o p ho hp => vis_in hS f p o ho hp) _ _ ?_ (fun p hp => hS a (ha h.1) p hp)
      intro x hx
      rcases List.mem_append.1 hx with q | q
      · exact ho x q
      · rw [List.mem_singleton.1 q]; exact ha h.1
    · exact ho
theorem vis_nodup (m : Me) : ∀ (f : Nat) (a : Int) (out : List Int), out.Nodup → (m.vis f a out).Nodup
  | 0, _, _, h => h
  | f + 1, a, out, h => by
    unfold Me.vis
    split
    · rename_i k
      exact fold_all (R := fun o => o.Nodup) (T := fun _ => True) (fun o p ho _ => vis_nodup m f p o ho) _ _ (nodup_snoc h k.2) (fun _ _ => trivial)
    · exact h
theorem vis_real (m : Me) (f : Nat) (a : Int) (out : List Int) (h : ∀ x ∈ out, m.real x = true) : ∀ x ∈ m.vis f a out, m.real x = true :=
  vis_in (S := fun x => m.real x = true) (fun _ _ _ _ h => h) f a out h id
/-- Whence each comes. -/
theorem vis_from {m : Me} {F : Int → Prop} : ∀ (f : Nat) (a : Int) (out : List Int), F a → (∀ x ∈ out, F x ∨ ∃ y ∈ out, x ∈ m.ptv y) → ∀ x ∈ m.vis f a out, F x ∨ ∃ y ∈ m.vis f a out, x ∈ m.ptv y
  | 0, _, _, _, ho => ho
  | f + 1, a, out, ha, ho => by
    unfold Me.vis
    split
    · rename_i h
      -- what has been told stays; each pointer is one of a's
      have key : ∀ (ps : List Int) (o : List Int), a ∈ o → (∀ p ∈ ps, p ∈ m.ptv a) → (∀ x ∈ o, F x ∨ ∃ y ∈ o, x ∈ m.ptv y) → ∀ x ∈ ps.foldl (fun o p => m.vis f p o) o, F x ∨ ∃ y ∈ ps.foldl (fun o p => m.vis f p o) o, x ∈ m.ptv y := by
        intro ps
        induction ps with
        | nil => exact fun o _ _ ho => ho
        | cons p r ih =>
          intro o hao hps ho
          have hpre := vis_pre m f p o
          refine ih (m.vis f p o) (hpre.subset hao) (fun q hq => hps q (by simp [hq])) ?_
          -- p itself is a pointer of a
          have h2 := vis_from (F := fun x => F x ∨ x = p) f p o (.inr rfl) (fun x hx => by
            rcases ho x hx with q | q
            · exact .inl (.inl q)
            · exact .inr q)
          intro x hx
          rcases h2 x hx with (q | q) | q
          · exact .inl q
          · exact .inr ⟨a, hpre.subset hao, by rw [q]; exact hps p (by simp)⟩
          · exact .inr q
      refine key _ _ (by simp) (fun p hp => hp) ?_
      intro x hx
      rcases List.mem_append.1 hx with q | q
      · rcases ho x q with r | ⟨y, hy, r⟩
        · exact .inl r
        · exact .inr ⟨y, by simp [hy], r⟩
      · rw [List.mem_singleton.1 q]; exact .inl ha
    · exact ho
/-- With enough steps what is reached is closed. -/
theorem vis_done {m : Me} : ∀ (f : Nat) (a : Int) (out : List Int), m.lft out < f → (m.real a = true → a ∈ m.vis f a out) ∧ ∀ x ∈ m.vis f a out, x ∉ out → ∀ b ∈ m.ptv x, m.real b = true → b ∈ m.vis f a out
  | 0, _, _, h => by omega
  | f + 1, a, out, h => by
    by_cases hr : m.real a = true
    · by_cases hin : a ∈ out
      · rw [vis_no (.inr hin)]
        exact ⟨fun _ => hin, fun x hx hn => absurd hx hn⟩
      · rw [vis_yes hr hin]
        have hl := lft_snoc hr hin
        have key : ∀ (ps : List Int) (o : List Int), m.lft o < f →
            (∀ p ∈ ps, m.real p = true → p ∈ ps.foldl (fun o p => m.vis f p o) o) ∧ ∀ x ∈ ps.foldl (fun o p => m.vis f p o) o, x ∉ o → ∀ b ∈ m.ptv x, m.real b = true → b ∈ ps.foldl (fun o p => m.vis f p o) o := by
          intro ps
          induction ps with
          | nil => exact fun o _ => ⟨fun _ h => (by cases h), fun x hx hn => absurd hx hn⟩
          | cons p r ih =>
            intro o ho
            obtain ⟨d1, d2⟩ := vis_done f p o ho
            have hpre := vis_pre m f p o
            have hlo : m.lft (m.vis f p o) < f := Nat.lt_of_le_of_lt (lft_mono (fun y hy => hpre.subset hy)) ho
            obtain ⟨e1, e2⟩ := ih (m.vis f p o) hlo
            have hp2 := fold_pre (fun o p => vis_pre m f p o) r (m.vis f p o)
            refine ⟨fun q hq hrq => ?_, fun x hx hn b hb hrb => ?_⟩
            · rcases List.mem_cons.1 hq with rfl | hq
              · exact hp2.subset (d1 hrq)
              · exact e1 q hq hrq
            · by_cases hx2 : x ∈ m.vis f p o
              · exact hp2.subset (d2 x hx2 hn b hb hrb)
              · exact e2 x hx hx2 b hb hrb
        obtain ⟨k1, k2⟩ := key (m.ptv a) (out ++ [a]) (by omega)
        have hpre := fold_pre (fun o p => vis_pre m f p o) (m.ptv a) (out ++ [a])
        refine ⟨fun _ => hpre.subset (by simp), fun x hx hn b hb hrb => ?_⟩
        by_cases hxa : x = a
        · subst hxa
          exact k1 b hb hrb
        · exact k2 x hx (by simp [hn, hxa]) b hb hrb
    · rw [vis_no (.inl (by simpa using hr))]
      exact ⟨fun q => absurd q hr, fun x hx hn => absurd hx hn⟩
theorem rch_facts (m : Me) (roots : List Int) : (m.rch roots).Nodup ∧ (∀ x ∈ m.rch roots, m.real x = true) ∧ (∀ x ∈ m.rch roots, x ∈ roots ∨ ∃ y ∈ m.rch roots, x ∈ m.ptv y) ∧ (∀ a ∈ roots, m.real a = true → a ∈ m.rch roots) ∧ ∀ x ∈ m.rch roots, ∀ b ∈ m.ptv x, m.real b = true → b ∈ m.rch roots := by
  have key : ∀ (ps o : List Int), o.Nodup → (∀ x ∈ o, m.real x = true) → (∀ x ∈ o, x ∈ roots ∨ ∃ y ∈ o, x ∈ m.ptv y) → (∀ p ∈ ps, p ∈ roots) → (∀ x ∈ o, ∀ b ∈ m.ptv x, m.real b = true → b ∈ o) →
      (ps.foldl (fun o a => m.vis (2 * m.n + 1) a o) o).Nodup ∧ (∀ x ∈ ps.foldl (fun o a => m.vis (2 * m.n + 1) a o) o, m.real x = true) ∧ (∀ x ∈ ps.foldl (fun o a => m.vis (2 * m.n + 1) a o) o, x ∈ roots ∨ ∃ y ∈ ps.foldl (fun o a => m.vis (2 * m.n + 1) a o) o, x ∈ m.ptv y)
        ∧ (∀ p ∈ ps, m.real p = true → p ∈ ps.foldl (fun o a => m.vis (2 * m.n + 1) a o) o) ∧ ∀ x ∈ ps.foldl (fun o a => m.vis (2 * m.n + 1) a o) o, ∀ b ∈ m.ptv x, m.real b = true → b ∈ ps.foldl (fun o a => m.vis (2 * m.n + 1) a o) o := by
    intro ps
    induction ps with
    | nil => exact fun o h1 h2 h3 _ h5 => ⟨h1, h2, h3, fun _ h => (by cases h), h5⟩
    | cons p r ih =>
      intro o h1 h2 h3 h4 h5
      obtain ⟨d1, d2⟩ := vis_done (m := m) (2 * m.n + 1) p o (by have := lft_le m o; omega)
      have hpre := vis_pre m (2 * m.n + 1) p o
      obtain ⟨e1, e2, e3, e4, e5⟩ := ih (m.vis (2 * m.n + 1) p o) (vis_nodup m _ p o h1) (vis_real m _ p o h2) (vis_from (F := fun x => x ∈ roots) _ p o (h4 p (by simp)) h3) (fun q hq => h4 q (by simp [hq])) (fun x hx b hb hrb => by
        by_cases hxo : x ∈ o
        · exact hpre.subset (h5 x hxo b hb hrb)
        · exact d2 x hx hxo b hb hrb)
      refine ⟨e1, e2, e3, fun q hq hrq => ?_, e5⟩
      rcases List.mem_cons.1 hq with rfl | hq
      · exact (fold_pre (fun o p => vis_pre m _ p o) r _).subset (d1 hrq)
      · exact e4 q hq hrq
  exact key roots [] List.nodup_nil (fun _ h => (by cases h)) (fun _ h => (by cases h)) (fun _ h => h) (fun _ h => (by cases h))
theorem rch_in {m : Me} {S : Int → Prop} (hS : ∀ a, S a → ∀ b ∈ m.ptv a, m.real b = true → S b) (roots : List Int) (h : ∀ a ∈ roots, S a) : ∀ x ∈ m.rch roots, S x :=
  fold_all (R := fun o => ∀ x ∈ o, S x) (T := S) (fun o p ho hp => vis_in hS _ p o ho (fun _ => hp)) roots [] (fun _ h => by cases h) h
theorem real_0 (m : Me) : m.real 0 = false := decide_eq_false (fun q => by
  have h := (kne_0.1 q).1.1.1
  revert h
  decide)
theorem rch_len (m : Me) (hn : m.n ≤ 4096) (roots : List Int) : (m.rch roots).length ≤ 8192 := by
  have key : ∀ (f : Nat) (a : Int) (out : List Int), out.length + m.lft out ≤ 8192 → (m.vis f a out).length + m.lft (m.vis f a out) ≤ 8192 := by
    intro f
    induction f with
    | zero => exact fun _ _ h => h
    | succ f ih =>
      intro a out h
      unfold Me.vis
      split
      · rename_i k
        have hl := lft_snoc k.1 k.2
        exact fold_all (R := fun o => o.length + m.lft o ≤ 8192) (T := fun _ => True) (fun o p ho _ => ih p o ho) _ _ (by simp; omega) (fun _ _ => trivial)
      · exact h
  have h := fold_all (R := fun o : List Int => o.length + m.lft o ≤ 8192) (T := fun _ => True) (fun o p ho _ => key (2 * m.n + 1) p o ho) roots [] (by have := lft_le m []; simp; omega) (fun _ _ => trivial)
  have e : roots.foldl (fun o a => m.vis (2 * m.n + 1) a o) [] = m.rch roots := rfl
  rw [e] at h
  omega
theorem rch_u64 (m : Me) (roots : List Int) : ∀ x ∈ m.rch roots, U64 x := fun x hx => real_u64 ((rch_facts m roots).2.1 x hx)
def Me.snd (m : Me) (s lim : Int) : Bool := decide (m.tle s lim = 0) && m.sndb (m.tll wObj s lim)
theorem Rd.take {w : World} {A : Option Addr} {n k : Nat} {xs : List Int} (h : Rd w A n xs) (hk : k ≤ n) : Rd w A k (xs.take k) := by
  have hl := h.1
  refine ⟨by rw [List.length_take]; omega, fun hk0 => ?_⟩
  obtain ⟨p, e, hr⟩ := h.2 (by omega)
  exact ⟨p, e, hr.1, fun j x hx => by
    rw [List.getElem?_take] at hx
    split at hx
    · exact hr.2 j x hx
    · cases hx⟩
set_option maxRecDepth 100000 in
theorem words_in {H : Type} {enc : TypeId × Value → H} {w : World} {r : Reach} {b0 : Nat} {v : Value} {d : DataW H} {p : List MemPlace} (hv : Value.okWide Tryz.prog w r b0 22 v) (h : DataW.Trod enc Tryz.prog w 0 (fun _ => true) true 22 v d p) :
    ∃ A n c xs, v = .slice A n c ∧ SlOk w A n c xs := by
  obtain ⟨a, len, cap, rfl⟩ := okWide_slice Tryz.underlying22 hv
  obtain ⟨fuel, hf⟩ := h
  exact words_open hf

end Go.Proofs.YtddoljfkbkbfjaaGreat
