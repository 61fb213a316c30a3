/- The document's rows of addresses (dovecoteref06: Has, Pointers; dovecoteref04: Pointers): contracts. -/
import Derived.Test.YtmjadmoadedghaaWk5
namespace Go.Proofs.Ytmjadmoadedghaa
open Go.ChangeShapes Go.WideShapes Go.ChangeAt Go.RowKit
set_option linter.unusedVariables false
set_option linter.unusedSimpArgs false

theorem mem_take_snoc {xs : List Int} {x : Nat} {a : Int} (h : x < xs.length) : a ∈ xs.take (x + 1) ↔ a ∈ xs.take x ∨ a = xs.getD x 0 := by
  rw [take_snoc' h]
  simp
set_option maxHeartbeats 1000000 in
theorem rhas_any (A : Option Addr) (k cap : Nat) (xs : List Int) (a : Int) (w : World) (hx : Rd w A k xs) (hk : k ≤ maxLen) :
    Calls Try.prog 17 #[.slice A k cap, .int .u64 a] w fun e w' => e = .returned (.bool (decide (a ∈ xs))) ∧ w = w' := by
  have HX := Lib.hid hx
  have Lx := Lib.hid hx.1
  unfold maxLen at hk
  generalize hB : decide (a ∈ xs) = bo
  have HB := Lib.hid hB
  clear hx hB
  go_enter Try.func17, Try.ntmps17
  go_wp2
  go_loop [5] (fun i => ∃ x : Nat, x ≤ k ∧ i = .int .i64 x ∧ a ∉ xs.take x) (fun i => k - (intOf i).toNat)
  case atStart => exact ⟨0, Nat.zero_le _, rfl, by simp⟩
  case round =>
    obtain ⟨x, hxk, rfl, hni⟩ := hrel
    have HN := Lib.hid hni
    clear hni
    by_cases hlt : x < k
    · obtain ⟨p, rfl, hcp⟩ := HX.out.at_ hlt
      have hlx : x < xs.length := by rw [Lx.out]; exact hlt
      have M := Lib.hid (mem_take_snoc (a := a) hlx)
      by_cases he : xs.getD x 0 = a
      · have HT : Hid (a ∈ xs) := Lib.hid (List.mem_of_mem_take (M.out.2 (.inr he.symm)))
        have hb : (xs.getD x 0 == a) = true := beq_iff_eq.2 he
        generalize xs.getD x 0 = b at hcp hb
        clear he M
        go_wp2
        go_ret
        exact ⟨by rw [← HB.out, decide_eq_true HT.out]; rfl, rfl⟩
      · have HT : Hid (a ∉ xs.take (x + 1)) := Lib.hid (fun q => by
          rcases M.out.1 q with q | q
          · exact HN.out q
          · exact he q.symm)
        have hb : (xs.getD x 0 == a) = false := beq_eq_false_iff_ne.2 he
        generalize xs.getD x 0 = b at hcp hb
        clear he M
        go_wp2
        go_round
        case rel => exact ⟨x + 1, by omega, by go_num, HT.out⟩
        case measure => simp [intOf]; omega
    · obtain rfl : x = k := by omega
      go_wp2
      go_ret
      have h := HN.out
      rw [List.take_of_length_le (by rw [Lx.out]; exact Nat.le_refl _)] at h
      exact ⟨by rw [← HB.out, decide_eq_false h]; rfl, rfl⟩

/-! ### An object's pointers -/
theorem range_flt {p : Nat → Bool} {n : Nat} (h : ∀ i, p i = true → i < n) (k : Nat) : (List.range (n + k)).filter p = (List.range n).filter p := by
  induction k with
  | zero => rfl
  | succ k ih =>
    rw [← Nat.add_assoc, List.range_succ, List.filter_append, ih]
    have : p (n + k) = false := by
      cases hp : p (n + k)
      · rfl
      · have := h _ hp; omega
    simp [this]
theorem range_flt2 {p : Nat → Bool} {n k : Nat} (h : ∀ i, p i = true → i < n) (h2 : ∀ i, p i = true → i < k) : (List.range k).filter p = (List.range n).filter p := by
  rcases Nat.le_total n k with q | q
  · obtain ⟨d, rfl⟩ := Nat.le.dest q
    exact range_flt h d
  · obtain ⟨d, rfl⟩ := Nat.le.dest q
    exact (range_flt h2 d).symm
theorem pts_is (l m : Int) (hm : 0 ≤ m) (hm1 : m ≤ 65535) : pts l m = (List.range l.toNat).filter fun i : Nat => ptb l m i := by
  unfold pts fst
  refine range_flt2 (fun i h => ?_) (fun i h => ?_)
  · unfold ptb at h
    simp only [Bool.and_eq_true, decide_eq_true_eq] at h
    omega
  · unfold ptb at h
    simp only [Bool.and_eq_true, decide_eq_true_eq, beq_iff_eq] at h
    have h2 := h.2.2
    have hl := len_lt m.toNat (by omega)
    by_cases hi : i < Lib.bitLen m.toNat
    · exact hi
    · have hp : (2 : Nat) ^ Lib.bitLen m.toNat ≤ 2 ^ i := Nat.pow_le_pow_right (by decide) (by omega)
      have hp2 : m < ((2 ^ i : Nat) : Int) := by omega
      have hz : m / 2 ^ i = 0 := by
        have : ((2 : Int) ^ i) = ((2 ^ i : Nat) : Int) := by simp
        rw [this]
        exact Int.ediv_eq_zero_of_lt hm hp2
      simp only [Int.toNat_natCast] at h2
      rw [hz] at h2
      cases h2
/-- The first fields that are pointers. -/
def ptk (l m : Int) (x : Nat) : List Nat := (List.range x).filter fun i : Nat => ptb l m i
theorem ptk_yes {l m : Int} {x : Nat} (h : ptb l m x = true) : ptk l m (x + 1) = ptk l m x ++ [x] := by simp [ptk, List.range_succ, h]
theorem ptk_no {l m : Int} {x : Nat} (h : ptb l m x = false) : ptk l m (x + 1) = ptk l m x := by simp [ptk, List.range_succ, h]
theorem ptk_len (l m : Int) (x : Nat) : (ptk l m x).length ≤ x := by
  unfold ptk
  have := List.length_filter_le (fun i : Nat => ptb l m i) (List.range x)
  simpa using this
/-- A row of places of fields. -/
def Loi (w : World) (n₀ : Nat) (v : Value) (xs : List Nat) : Prop := w.ownsRow n₀ 3 1 v xs.length (xs.map fun x : Nat => Value.int .i64 x)
def PkRel (l m t : Int) (w : World) (u3 i : Value) (wr : World) : Prop :=
  ∃ x : Nat, (x : Int) ≤ l ∧ i = .int .i64 x ∧ Loi wr w.heap.size u3 (ptk l m x) ∧ Below w.heap.size w wr ∧ Blk wr w.heap.size 33 (hcs t l m)
set_option maxHeartbeats 4000000 in
theorem rptrs_any (t l m : Int) (hl0 : 0 ≤ l) (hl1 : l ≤ 62) (hm : 0 ≤ m) (hm1 : m ≤ 65535) (w : World) :
    Calls Try.prog 37 #[hdv t l m] w fun e w' => ∃ v, e = .returned v ∧ Loi w' w.heap.size v (pts l m) ∧ Up w w' := by
  have hp := Lib.hid (fun (i : Int) (w : World) => rptr_any t l m i hm (by omega) hl1 w)
  have HE : Hid (pts l m = ptk l m l.toNat) := Lib.hid (pts_is l m hm hm1)
  obtain ⟨i0, hi, hz0, hz1, hz2⟩ := info_parts info_int
  clear hm hm1
  go_enter Try.func37, Try.ntmps37
  go_wp2
  go_loopw [3, 4] (fun u3 i wr => PkRel l m t w u3 i wr) (fun _ i _ => l.toNat - (intOf i).toNat)
  case atStart => exact ⟨0, hl0, rfl, World.ownsRow_nil _ _ _ _, (Up.refl w).alloc _, Blk.new w _ _⟩
  case round =>
    obtain ⟨x, hx, rfl, hlo, hB, hH⟩ := hrel
    have hHc := hH.cell
    have hsz := hB.size
    by_cases hlt : (x : Int) < l
    · have hpx := Lib.hid (fun w => hp.out (x : Int) w)
      have hlen := ptk_len l m x
      generalize hb : ptb l m x = b at hpx
      cases b
      · have PK := Lib.hid (ptk_no hb)
        clear hb
        have HLO := Lib.hid hlo
        clear hlo
        go_wp2_with (fail)
        refine (hpx.out _).mono ?_
        rintro e w1 ⟨rfl, h1⟩
        have H1 := Lib.hid (hH.up h1)
        have B1 := Lib.hid (hB.trans (Below.mono h1 hsz))
        have L1 : Hid (Loi w1 w.heap.size u3 (ptk l m x)) := Lib.hid (World.ownsRow.kept HLO.out h1.gb (by cases e : u3.ownBlock with | none => exact .inl rfl | some g => exact .inr (by simp)))
        clear h1 hH hB hHc HLO
        go_wp2
        refine ⟨⟨x + 1, by omega, by go_num, by rw [PK.out]; exact L1.out, B1.out, H1.out⟩, by simp [intOf]; omega⟩
      · have PK := Lib.hid (ptk_yes hb)
        clear hb
        have HLO := Lib.hid hlo
        clear hlo
        go_wp2_with (fail)
        refine (hpx.out _).mono ?_
        rintro e w1 ⟨rfl, h1⟩
        have H1 := hH.up h1
        have B1 := hB.trans (Below.mono h1 hsz)
        have L1 : w1.ownsRow w.heap.size 3 1 u3 (ptk l m x).length ((ptk l m x).map fun x : Nat => Value.int .i64 x) := World.ownsRow.kept HLO.out h1.gb (by cases e : u3.ownBlock with | none => exact .inl rfl | some g => exact .inr (by simp))
        have hs1 := B1.size
        clear h1 hH hB hHc HLO
        go_wp2_with (at_builtin; refine wpList_append_own_at _ rfl _ _ 77 rfl w.heap.size 3 i0 (.int .i64 0) 1 8 Try.underlying77 hi hz0 hz1 hz2 rfl (by decide) _ _ _ rfl (L1.alloc _) ⟨w1.heap.size, 0, none⟩ 1 1 [.int .i64 x] rfl rfl (cell_one_new _ _ _) (by simp [Value.oneCell']) (by unfold maxLen; omega) (by omega) (by simp; omega) ?_; intro v' w2 hown' hgrow _ hloc; obtain ⟨g', cap', rfl⟩ := ownsRow_succ hown')
        have hg2 : (w1.alloc (.cells #[.int .i64 x] 3)).grownBy w2 u3.ownBlock := hgrow
        refine ⟨⟨x + 1, by omega, by go_num, ?_, ?_, ?_⟩, by simp [intOf]; omega⟩
        · rw [PK.out]
          unfold Loi
          simpa using hown'
        · refine B1.trans (((Below.refl w.heap.size w1).alloc hs1 _).grown hg2 (by simp; omega) (fun k e => ?_))
          exact (World.ownsRow.lt L1 k e).1
        · exact (H1.alloc _).grown hg2 (own_row_ne L1 H1 (by decide))
    · obtain ⟨y, rfl⟩ : ∃ y : Nat, l = y := ⟨l.toNat, by omega⟩
      obtain rfl : x = y := by omega
      go_wp2
      go_ret
      exact ⟨u3, rfl, by rw [HE.out]; exact hlo, hB⟩

theorem loi_rd {w : World} {n₀ : Nat} {v : Value} {xs : List Nat} (h : Loi w n₀ v xs) : ∃ A cap, v = .slice A xs.length cap ∧ RdI w A xs := lst_rd h
def PvRel (m : Me) (P Q : Addr) (c d : Nat) (a : Int) (A : Option Addr) (ps : List Nat) (w : World) (u8 i : Value) (wr : World) : Prop :=
  ∃ x : Nat, x ≤ ps.length ∧ i = .int .i64 x ∧ Lo wr w.heap.size u8 ((ps.take x).map fun i : Nat => m.getv a i) ∧ Below w.heap.size w wr ∧ Blk wr w.heap.size 25 (mcs m.n P Q c d) ∧ RdI wr A ps
set_option maxRecDepth 100000 in
set_option maxHeartbeats 4000000 in
theorem rpointers_any (m : Me) (P Q : Addr) (c d : Nat) (a : Int) (w : World) (hm : Sits w m P Q c d) (ha : U64 a) (hwf : m.wf) (hk : m.kne a = 0) :
    Calls Try.prog 18 #[.agg (mcs m.n P Q c d), .int .u64 a] w (fun e w' => ∃ v, e = .returned v ∧ Lo w' w.heap.size v (m.ptv a) ∧ Up w w') := by
  have hat := fun (W : World) (hS : Sits W m P Q c d) => rat_any m a P Q c d W hS ha hwf
  rw [ate_0.2 (kne_0.1 hk).1] at hat
  have hat := Lib.hid hat
  have hpt := Lib.hid (fun w => rptrs_any (m.att a) (m.atl a) (m.atm a) (kne_inn hk).2 (by have := atl_16 hk; omega) (atm_nn m a) (atm_65535 m a) w)
  have hgt := Lib.hid (fun (i : Nat) (hi : i ∈ pts (m.atl a) (m.atm a)) (W : World) (hS : Sits W m P Q c d) => by
    have h := rget_any m a i P Q c d W hS ha hwf
    rw [gete_0.2 (pts_fok hi)] at h
    exact h)
  have HPV : Hid (m.ptv a = (pts (m.atl a) (m.atm a)).map fun i : Nat => m.getv a i) := Lib.hid rfl
  obtain ⟨ps, hps⟩ : ∃ ps, pts (m.atl a) (m.atm a) = ps := ⟨_, rfl⟩
  have hb16 : ps.length ≤ 16 := by rw [← hps]; exact pts_len _ _ (atm_nn m a) (atm_65535 m a)
  rw [hps] at hgt HPV hpt
  have HM := Lib.hid hm
  have hP : P.block < w.heap.size := hm.2.2.2.2.2.1.1
  have hQ : Q.block < w.heap.size := hm.2.2.2.2.2.2.1
  obtain ⟨i0, hi, hz0, hz1, hz2⟩ := info_parts info_u64
  generalize m.att a = t at hat hpt
  generalize m.atl a = lo at hat hpt
  generalize m.atm a = mp at hat hpt
  clear hps hm ha hk
  go_enter Try.func18, Try.ntmps18
  go_wp2_with (fail)
  refine (hat.out _ (HM.out.up ((Up.refl w).alloc _))).mono ?_
  rintro e w1 ⟨rfl, h1⟩
  have M1 := ((Blk.new w 25 (mcs m.n P Q c d)).up h1).alloc (.cells (hcs t lo mp) 33)
  have U1 := (((Up.refl w).alloc (.cells (mcs m.n P Q c d) 25)).trans h1).alloc (.cells (hcs t lo mp) 33)
  have H1c := (Blk.new w1 33 (hcs t lo mp)).cell
  clear h1 hat
  go_wp2_with (fail)
  refine (hpt.out _).mono ?_
  rintro e w2 ⟨v, rfl, hrow, h2⟩
  obtain ⟨A, cap, rfl, hrd⟩ := loi_rd hrow
  have M2 := Lib.hid (M1.up h2)
  have U2 := Lib.hid (U1.trans h2)
  have R2 := Lib.hid hrd
  clear M1 U1 H1c h2 hpt hrow hrd
  go_wp2_with (fail)
  go_loopw [8, 9] (fun u8 i wr => PvRel m P Q c d a A ps w u8 i wr) (fun _ i _ => ps.length - (intOf i).toNat)
  case atStart => exact ⟨0, Nat.zero_le _, rfl, Lo.nil _ _, U2.out, M2.out, R2.out⟩
  case round =>
    clear M2 U2 R2
    obtain ⟨x, hx, rfl, hlo, hB, hMb, hRd⟩ := hrel
    have hsz := hB.size
    by_cases hlt : x < ps.length
    · have hRd0 := hRd
      obtain ⟨g, cs, rfl, hbk, hcs⟩ := hRd (by omega)
      have hcx := hcs x ps[x] (List.getElem?_eq_getElem hlt)
      have hgx := hgt.out _ (List.getElem_mem hlt)
      have T : Hid (ps.take (x + 1) = ps.take x ++ [ps[x]]) := Lib.hid (List.take_succ_eq_append_getElem hlt)
      generalize ps[x] = i at hgx T hcx
      obtain ⟨W0, hW0⟩ : ∃ W0 : World, W0 = wr.drew := ⟨_, rfl⟩
      have UW : Up wr W0 := by rw [hW0]; exact (Up.refl wr).drew
      have U0 : Up W0 wr.drew := by rw [hW0]; exact Up.refl _
      have B0 : Below w.heap.size w W0 := hB.trans (Below.mono UW hsz)
      have hgz := Lib.hid (fun (V : World) (hU : Up W0 V) => hgx V ((HM.out.up B0).up hU))
      have M0 := hMb.up UW
      have K0 := hbk.up UW
      have hK0 : Hid (cs[x]? = some (.int .i64 (i : Nat))) := Lib.hid hcx
      have L0 := Lib.hid (hlo.up UW)
      have R0 := Lib.hid (hRd0.to (fun g cs hb => hb.up UW))
      have B1 := Lib.hid B0
      have hs0 : Hid (w.heap.size ≤ W0.heap.size) := Lib.hid B0.size
      clear hW0 hgx hcs hcx hlo hB hMb hRd hRd0 hbk UW B0 hsz
      go_wp2_with (fail)
      go_region_held3 (fun w' => (∀ i, w'.cell? ⟨w.heap.size, i, none⟩ = (mcs m.n P Q c d : Array Value)[i]?) ∧ w'.cell? ⟨g, x, none⟩ = some (.int .i64 (i : Nat)))
        (exact ⟨fun i => (Blk.up M0 (by assumption)).cell i, ((Blk.up K0 (by assumption)).cell x).trans hK0.out⟩)
        (first
          | (go_at_call 38; ((with_reducible refine (hgz.out _ (by assumption)).mono ?_); rintro e w3 ⟨rfl, h3⟩; have UZ := Up.trans (a := W0) (by assumption) h3)))
      have B3 := B1.out.trans (Below.mono UZ hs0.out)
      have M3 := M0.up UZ
      have R3 := Lib.hid (R0.out.to (fun g cs hb => hb.up UZ))
      have L3 := L0.out.up UZ
      have hs3 := B3.size
      have EL : ((ps.take x).map fun i : Nat => m.getv a i).length ≤ 16 := by simp; omega
      have T2 : Hid ((ps.take (x + 1)).map (fun i : Nat => m.getv a i) = ((ps.take x).map fun i : Nat => m.getv a i) ++ [m.getv a (i : Nat)]) := Lib.hid (by rw [T.out]; simp)
      generalize m.getv a (i : Nat) = b at T2 ⊢
      generalize hl : ((ps.take x).map fun i : Nat => m.getv a i) = ls at L3 EL T2
      clear hl UZ h3 L0 M0 R0 B1 K0 hgz T U0
      go_wp2_with (at_builtin; refine wpList_append_own_at _ rfl _ _ 22 rfl w.heap.size 31 i0 (.int .u64 0) 1 8 Try.underlying22 hi hz0 hz1 hz2 rfl (by decide) _ _ _ rfl (World.ownsRow.alloc L3 _) ⟨w3.heap.size, 0, none⟩ 1 1 [.int .u64 b] rfl rfl (cell_one_new _ _ _) (by simp [Value.oneCell']) (by unfold maxLen; omega) (by omega) (by simp; omega) ?_; intro v' w4 hown' hgrow _ hloc; obtain ⟨g', cap', rfl⟩ := ownsRow_succ hown')
      have hg2 : (w3.alloc (.cells #[.int .u64 b] 31)).grownBy w4 u8.ownBlock := hgrow
      refine ⟨⟨x + 1, by omega, by go_num, ?_, ?_, ?_, ?_⟩, by simp [intOf]; omega⟩
      · rw [T2.out]
        unfold Lo
        simpa [wds, wd] using hown'
      · refine B3.trans (((Below.refl w.heap.size w3).alloc hs3 _).grown hg2 (by simp; omega) (fun k e => (World.ownsRow.lt L3 k e).1))
      · exact (M3.alloc _).grown hg2 (own_row_ne L3 M3 (by decide))
      · exact R3.out.to (fun g cs hb => (hb.alloc _).grown hg2 (own_row_ne L3 hb (by decide)))
    · obtain rfl : x = ps.length := by omega
      have HLO := Lib.hid hlo
      clear hlo
      go_wp2
      go_ret
      exact ⟨u8, rfl, by have h := HLO.out; rw [List.take_of_length_le (Nat.le_refl _)] at h; rw [HPV.out]; exact h, hB⟩
end Go.Proofs.Ytmjadmoadedghaa
