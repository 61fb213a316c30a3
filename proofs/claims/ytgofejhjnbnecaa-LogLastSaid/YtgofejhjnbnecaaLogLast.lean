/- The statement LogLast is proved for every input, from contracts of the functions that it calls; no condition is added. -/
import Derived.Test.YtgofejhjnbnecaaEn10
import Derived.BigQuiet
namespace Go.Proofs.Ytgofejhjnbnecaa.LLogLast
open Go.Joins Go.ChangeShapes Go.Shelf Go.Maps Go.WideShapes Go.ChangeAt Go.RowKit Go.Deep
set_option linter.unusedVariables false
set_option linter.unusedSimpArgs false

abbrev no (e : Ent) : Ent → Bool := fun x => decide (x ≠ e)
theorem onc_snoc (e : Ent) : ∀ xs : List Ent, onc (xs ++ [e]) = (onc xs).filter (no e) ++ [e]
  | [] => by simp [onc]
  | x :: r => by
    have ih := onc_snoc e r
    rw [List.cons_append]
    unfold onc
    by_cases h : x = e
    · subst h
      rw [if_pos (by simp), ih]
      split
      · rfl
      · rw [List.filter_cons_of_neg (by simp)]
    · have hm : x ∈ r ++ [e] ↔ x ∈ r := by simp [h]
      by_cases h2 : x ∈ r
      · rw [if_pos (hm.2 h2), if_pos h2, ih]
      · rw [if_neg (fun q => h2 (hm.1 q)), if_neg h2, ih, List.filter_cons_of_pos (by simp [h])]
        rfl
/-- How many of the first i aren't e. -/
def cn (p : List Ent) (e : Ent) (i : Nat) : Nat := ((p.take i).filter (no e)).length
theorem cn_at {p : List Ent} {e : Ent} {i : Nat} (h : i < p.length) (hn : p.getD i (0, 0) ≠ e) : cn p e (i + 1) = cn p e i + 1 ∧ cn p e i < (p.filter (no e) ++ [e]).length ∧ (p.filter (no e) ++ [e]).getD (cn p e i) (0, 0) = p.getD i (0, 0) := by
  have hp : p = p.take i ++ p.getD i (0, 0) :: p.drop (i + 1) := by rw [← drop_one (0, 0) h, List.take_append_drop]
  have hf : p.filter (no e) = (p.take i).filter (no e) ++ p.getD i (0, 0) :: (p.drop (i + 1)).filter (no e) := by
    conv => lhs; rw [hp]
    rw [List.filter_append, List.filter_cons_of_pos (by simpa using hn)]
  refine ⟨?_, ?_, ?_⟩
  · unfold cn
    rw [take_one (0, 0) h, List.filter_append, List.filter_cons_of_pos (by simpa using hn)]
    simp
  · rw [hf]
    unfold cn
    simp
  · generalize p.getD i (0, 0) = x at hf ⊢
    rw [hf]
    unfold cn
    simp [List.getD]
theorem cn_no {p : List Ent} {e : Ent} {i : Nat} (h : i < p.length) (hn : p.getD i (0, 0) = e) : cn p e (i + 1) = cn p e i := by
  unfold cn
  rw [take_one (0, 0) h, List.filter_append, hn, List.filter_cons_of_neg (by simp)]
  simp
theorem cn_end (p : List Ent) (e : Ent) : (p.filter (no e) ++ [e]).length = cn p e p.length + 1 ∧ (p.filter (no e) ++ [e]).getD (cn p e p.length) (0, 0) = e := by
  unfold cn
  rw [List.take_length]
  simp [List.getD]
theorem cn_le (p : List Ent) (e : Ent) (i : Nat) : cn p e i ≤ i := by
  unfold cn
  exact Nat.le_trans (List.length_filter_le _ _) (List.length_take_le _ _)
def LRel (w : World) (wl : World) (p : List Ent) (e : Ent) (n : Nat) (u8 u9 : Value) (wr : World) : Prop := ∃ x : Nat, x ≤ n ∧ u9 = .int .i64 x ∧ u8 = .int .i64 ((cn p e x : Nat) : Int) ∧ ∃ m, wr = wl.drewN m
set_option maxRecDepth 100000 in
set_option maxHeartbeats 4000000 in
theorem walk_nil (v : Value) (xs : List Ent) (z1 z2 : Int) (w : World) (hx : Sl w v xs) (hk : ∀ x ∈ xs, OkE x) (hz : OkE (z1, z2)) (hb : xs.length ≤ 8796093021952) (h0 : xs = []) :
    Calls Try.prog 9 #[v, .agg #[.int .u64 z1, .int .i64 z2]] w (fun e w' => e = .returned (.bool true) ∧ Up w w') := by
  have hkz : ∀ x ∈ xs ++ [(z1, z2)], OkE x := fun x hx => by
    rcases List.mem_append.1 hx with q | q
    · exact hk x q
    · rw [List.mem_singleton.1 q]; exact hz
  have h1 := fun (W0 : World) (p : Value) (w' : World) (k : Up W0 w') (h : Sl w' p (xs ++ [(z1, z2)])) => once_any p _ w' h hkz (by simp; omega)
  rw [onc_snoc] at h1
  have h2 := Lib.hid (fun w' (k : Up w w') => once_any v xs w' (hx.up k) hk (by omega))
  have hol := onc_len xs
  have hA := Lib.hid (fun (i : Nat) h hn => cn_at (p := onc xs) (e := (z1, z2)) (i := i) h hn)
  have hN := Lib.hid (fun (i : Nat) h hn => cn_no (p := onc xs) (e := (z1, z2)) (i := i) h hn)
  have hE := Lib.hid (cn_end (onc xs) (z1, z2))
  have hC := Lib.hid (cn_le (onc xs) (z1, z2))
  subst h0
  have h1 := Lib.hid (fun (W0 : World) (p : Value) (w' : World) (k : Up W0 w') (h : Sl w' p [(z1, z2)]) => h1 W0 p w' k h)
  generalize (onc []).filter (no (z1, z2)) ++ [(z1, z2)] = O at *
  generalize onc [] = P at *
  have HX := Lib.hid hx
  obtain ⟨A, c, rfl, -⟩ := hx
  clear hk hz hkz hol
  go_enter Try.func9, Try.ntmps9
  go_wp2_with (fail)
  refine (shown_any _).mono ?_
  rintro e W0 ⟨rfl, k1⟩
  have U0 : Up w W0 := ((Up.refl w).alloc _).trans k1
  have D0 := (Blk.new w 25 #[.int .u64 z1, .int .i64 z2]).up k1
  have hB : w.heap.size < W0.heap.size := D0.lt
  clear k1
  have hsz := U0.size
  have UR := Up.refl W0
  go_wp2_with (fail)
  go_region_held3 (fun w' => ∀ i, w'.cell? ⟨w.heap.size, i, none⟩ = (#[.int .u64 z1, .int .i64 z2] : Array Value)[i]?)
    (first
      | exact fun i => D0.drew.cell i
      | exact fun i => (D0.alloc _).drew.cell i
      | exact fun i => (D0.drew.alloc _).cell i
      | exact fun i => ((D0.alloc _).drew.alloc _).cell i
      | exact fun i => ((D0.alloc _).alloc _).drew.cell i
      | exact fun i => (D0.up (by assumption)).cell i
      | exact fun i => (D0.up (Up.alloc (by assumption) _)).cell i
      | (trace_state; fail))
    (first
      | (refine step_nothing (by rfl) _ _ (by rfl) (some ⟨W0.heap.size, 0, none⟩) A c (by rfl) (by rfl) ?_)
      | (refine step_nothing (by rfl) _ _ (by rfl) (some ⟨W0.heap.size + 1, 0, none⟩) A c (by rfl) (by rfl) ?_)
      | (refine step_own (by rfl) _ _ (by rfl) W0.heap.size (.slice (some ⟨W0.heap.size, 0, none⟩) 0 0) [] (by rfl) (lo_empty ((Blk.new W0 _ _).drew.alloc _) (by omega)) ⟨W0.heap.size + 1, 0, none⟩ [(z1, z2)] 1 1 (by rfl) rfl (row_of_blk (xs := [(z1, z2)]) (Blk.new' _ (by simp) _ _)) (by omega) (by simp) (by simp <;> omega) ?_; intro g2 cap2 wb hown hg; have UB : Up W0 wb := Up.own (((Up.refl W0).alloc _).drew.alloc _) (lo_empty ((Blk.new W0 25 #[]).drew.alloc _) (by omega)) hg)
      | (refine step_own (by rfl) _ _ (by rfl) W0.heap.size (.slice (some ⟨W0.heap.size, 0, none⟩) 0 0) [] (by rfl) (lo_empty ((Blk.new W0 _ _).alloc _).drew (by omega)) ⟨W0.heap.size + 1, 0, none⟩ [(z1, z2)] 1 1 (by rfl) rfl (row_of_blk (xs := [(z1, z2)]) blk_alloc2) (by omega) (by simp) (by simp <;> omega) ?_; intro g2 cap2 wb hown hg; have UB : Up W0 wb := Up.own (((Up.refl W0).alloc _).alloc _).drew (lo_empty ((Blk.new W0 25 #[]).alloc _).drew (by omega)) hg)
      | (refine step_own (by rfl) _ _ (by rfl) W0.heap.size (.slice (some ⟨W0.heap.size + 1, 0, none⟩) 0 0) [] (by rfl) (lo_empty blk_alloc2 (by omega)) ⟨W0.heap.size, 0, none⟩ [(z1, z2)] 1 1 (by rfl) rfl (row_of_blk (xs := [(z1, z2)]) ((Blk.new W0 _ _).alloc _).drew) (by omega) (by simp) (by simp <;> omega) ?_; intro g2 cap2 wb hown hg; have UB : Up W0 wb := Up.own (((Up.refl W0).alloc _).alloc _).drew (lo_empty (blk_alloc2 (w := W0) (t := 25) (cs := #[.int .u64 z1, .int .i64 z2])) (by omega)) hg)
      | (go_at_call 18; ((refine (h1.out W0 _ _ UB (Sl.of_lo hown)).mono ?_); rintro e wz ⟨vy, rfl, hly, hz⟩; have UZ := Up.trans (a := W0) (by assumption) hz)))
  all_goals
    have U1 := U0.trans UZ
    have D1 := D0.up UZ
    have HO := Lib.hid (Sl.of_lo hly)
    have hv := HO.out
    have hom := hv.max
    obtain ⟨A5, c5, rfl, -⟩ := hv
    unfold maxLen at hom
    clear hly hz UZ UB hown D0 U0 UR h1
    generalize hlo : O.length = lo at *
    generalize hlp : P.length = lp at *
    go_wp2_with (fail)
    refine (h2.out _ U1).mono ?_
    rintro e w2 ⟨p2, rfl, hp2, k2⟩
    have HO2 := Lib.hid (HO.out.up k2)
    have HP2 := Lib.hid (Sl.of_lo hp2)
    have D2 := D1.up k2
    have D2c := D2.cell
    have U2 := Lib.hid (U1.trans k2)
    have hv := HP2.out
    have hpm := hv.max
    obtain ⟨A6, c6, e6, -⟩ := hv
    rw [hlp] at e6 hpm
    subst e6
    unfold maxLen at hpm
    have HLO := Lib.hid hlo
    have HLP := Lib.hid hlp
    clear hp2 k2 HO U1 D1 h2 hlo hlp
    go_wp2_with (fail)
    go_loopw [8, 9] (fun u8 u9 wr => LRel w w2 P (z1, z2) lp u8 u9 wr) (fun _ i _ => lp - (intOf i).toNat)
    case atStart => exact ⟨0, Nat.zero_le _, rfl, rfl, 0, rfl⟩
    case round =>
      obtain ⟨x, hxn, rfl, rfl, m, rfl⟩ := hrel
      by_cases hlt : x < lp
      · obtain ⟨pp, ep, hcp, hcp2⟩ := HP2.out.rd.at_ (x := x) hlt
        cases ep
        have hcx := hC.out x
        by_cases hpe : P.getD x (0, 0) = (z1, z2)
        · have hst := hN.out x hlt hpe
          have HST := Lib.hid hst
          rw [hpe] at hcp hcp2
          generalize cn P (z1, z2) x = t at *
          have he := eq_ent z1 z2 z1 z2
          rw [show bE z1 z2 z1 z2 = true from by rw [bE_eq, decide_eq_true rfl]] at he
          clear hst hpe
          go_wp2_with (fail)
          go_quiet (fail)
          go_wp2_with (fail)
          exact ⟨⟨x + 1, by omega, by go_num, by rw [HST.out], m + nq, by first | rfl | rw [World.drewN_drewN]⟩, by simp [intOf]; omega⟩
        · obtain ⟨hs1, hs2, hs3⟩ := hA.out x hlt hpe
          have HST := Lib.hid hs1
          obtain ⟨po, eo, hco, hco2⟩ := HO2.out.rd.at_ (x := cn P (z1, z2) x) hs2
          cases eo
          rw [hs3] at hco hco2
          generalize hb0 : P.getD x (0, 0) = b at *
          generalize cn P (z1, z2) x = t at *
          obtain ⟨b1, b2⟩ := b
          simp only [] at hcp hcp2 hco hco2
          have he := eq_ent b1 b2 z1 z2
          rw [show bE b1 b2 z1 z2 = false from by rw [bE_eq, decide_eq_false hpe]] at he
          have he2 := ne_ent b1 b2 b1 b2
          rw [show bE b1 b2 b1 b2 = true from by rw [bE_eq, decide_eq_true rfl]] at he2
          have hd : decide ((lo : Int) ≤ (t : Int)) = false := decide_eq_false (by omega)
          clear hs1 hs3 hb0 hpe
          go_wp2_with (fail)
          go_quiet (fail)
          go_wp2_with (fail)
          go_quiet (fail)
          go_wp2_with (fail)
          exact ⟨⟨x + 1, by omega, by go_num, by rw [HST.out]; go_num, _, by first | rfl | (rw [World.drewN_drewN]) | (rw [World.drewN_drewN, World.drewN_drewN])⟩, by simp [intOf]; omega⟩
      · obtain rfl : x = lp := by omega
        obtain ⟨he1, he2⟩ := hE.out
        obtain ⟨po, eo, hco, hco2⟩ := HO2.out.rd.at_ (x := cn P (z1, z2) x) (by omega)
        cases eo
        rw [he2] at hco hco2
        generalize cn P (z1, z2) x = t at *
        have he := eq_ent z1 z2 z1 z2
        rw [show bE z1 z2 z1 z2 = true from by rw [bE_eq, decide_eq_true rfl]] at he
        have hw1 : IntKind.i64.wrap ((t : Int) + 1) = (t : Int) + 1 := by rw [IntKind.wrap_i64]; omega
        have hd : ((lo : Int) == (t : Int) + 1) = true := beq_iff_eq.2 (by omega)
        have hlt2 : t < lo := by omega
        clear he1 he2 hxn hlt
        go_wp2_with (fail)
        go_quiet (fail)
        go_wp2
        go_ret
        exact ⟨rfl, (U2.out.drewN m).drewN nq⟩

set_option maxRecDepth 100000 in
set_option maxHeartbeats 4000000 in
theorem walk_cons (v : Value) (xs : List Ent) (z1 z2 : Int) (w : World) (hx : Sl w v xs) (hk : ∀ x ∈ xs, OkE x) (hz : OkE (z1, z2)) (hb : xs.length ≤ 8796093021952) (h0 : xs ≠ []) :
    Calls Try.prog 9 #[v, .agg #[.int .u64 z1, .int .i64 z2]] w (fun e w' => e = .returned (.bool true) ∧ Up w w') := by
  have hkz : ∀ x ∈ xs ++ [(z1, z2)], OkE x := fun x hx => by
    rcases List.mem_append.1 hx with q | q
    · exact hk x q
    · rw [List.mem_singleton.1 q]; exact hz
  have h1 := fun (W0 : World) (p : Value) (w' : World) (k : Up W0 w') (h : Sl w' p (xs ++ [(z1, z2)])) => once_any p _ w' h hkz (by simp; omega)
  rw [onc_snoc] at h1
  have h2 := Lib.hid (fun w' (k : Up w w') => once_any v xs w' (hx.up k) hk (by omega))
  have hol := onc_len xs
  have hA := Lib.hid (fun (i : Nat) h hn => cn_at (p := onc xs) (e := (z1, z2)) (i := i) h hn)
  have hN := Lib.hid (fun (i : Nat) h hn => cn_no (p := onc xs) (e := (z1, z2)) (i := i) h hn)
  have hE := Lib.hid (cn_end (onc xs) (z1, z2))
  have hC := Lib.hid (cn_le (onc xs) (z1, z2))
  have hr0 : ∃ p, 0 < xs.length ∧ ∃ c, v = .slice (some p) xs.length c ∧ Row w p xs := by
    obtain ⟨A, c, e, -, -, -, hr⟩ := hx
    have hp : 0 < xs.length := List.length_pos_iff.2 h0
    obtain ⟨p, rfl, hw⟩ := hr.2 hp
    exact ⟨p, hp, c, e, hw⟩
  have h1 := Lib.hid h1
  generalize (onc xs).filter (no (z1, z2)) ++ [(z1, z2)] = O at *
  generalize onc xs = P at *
  obtain ⟨p, hn, c, rfl, hr⟩ := hr0
  generalize hl0 : xs.length = n at *
  have HL := Lib.hid hl0
  clear hl0
  clear hk hz hkz h0
  go_enter Try.func9, Try.ntmps9
  go_wp2_with (fail)
  refine (shown_any _).mono ?_
  rintro e W0 ⟨rfl, k1⟩
  have U0 : Up w W0 := ((Up.refl w).alloc _).trans k1
  have D0 := (Blk.new w 25 #[.int .u64 z1, .int .i64 z2]).up k1
  have hB : w.heap.size < W0.heap.size := D0.lt
  clear k1
  have hsz := U0.size
  have UR := Up.refl W0
  have hr0 := hr.up U0
  go_wp2_with (fail)
  go_region_held3 (fun w' => ∀ i, w'.cell? ⟨w.heap.size, i, none⟩ = (#[.int .u64 z1, .int .i64 z2] : Array Value)[i]?)
    (first
      | exact fun i => D0.drew.cell i
      | exact fun i => (D0.alloc _).drew.cell i
      | exact fun i => (D0.drew.alloc _).cell i
      | exact fun i => ((D0.alloc _).drew.alloc _).cell i
      | exact fun i => ((D0.alloc _).alloc _).drew.cell i
      | exact fun i => (D0.up (by assumption)).cell i
      | exact fun i => (D0.up (Up.alloc (by assumption) _)).cell i
      | (trace_state; fail))
    (first
      | (refine step_more (by rfl) _ _ (by rfl) (some ⟨W0.heap.size, 0, none⟩) [] 0 (by rfl) ⟨rfl, fun q => absurd q (by simp)⟩ p xs n c (by rfl) HL.out (hr0.up (UR.alloc _).drew) hn (by omega) ?_; intro v1 wa hown1 hup1; have UA := (UR.alloc (.cells #[] 25)).drew.trans hup1)
      | (refine step_more (by rfl) _ _ (by rfl) (some ⟨W0.heap.size, 0, none⟩) [] 0 (by rfl) ⟨rfl, fun q => absurd q (by simp)⟩ p xs n c (by rfl) HL.out (hr0.up ((UR.alloc _).alloc _).drew) hn (by omega) ?_; intro v1 wa hown1 hup1; have hS := (blk_alloc2 (w := W0) (t := 25) (cs := #[]) (ds := #[.int .u64 z1, .int .i64 z2]) (u := 25)).up hup1; have UA := ((UR.alloc (.cells #[] 25)).alloc (.cells #[.int .u64 z1, .int .i64 z2] 25)).drew.trans hup1)
      | (refine step_more (by rfl) _ _ (by rfl) (some ⟨W0.heap.size + 1, 0, none⟩) [] 0 (by rfl) ⟨rfl, fun q => absurd q (by simp)⟩ p xs n c (by rfl) HL.out (hr0.up ((UR.alloc _).alloc _).drew) hn (by omega) ?_; intro v1 wa hown1 hup1; have hS : Blk wa W0.heap.size 25 #[.int .u64 z1, .int .i64 z2] := ((Blk.new W0 _ _).alloc _).drew.up hup1; have UA := ((UR.alloc (.cells #[.int .u64 z1, .int .i64 z2] 25)).alloc (.cells #[] 25)).drew.trans hup1)
      | (refine step_own (by rfl) _ _ (by rfl) W0.heap.size v1 xs (by rfl) (World.ownsRow.alloc (Lo.le hown1 (by simp [World.drew])) _) ⟨wa.heap.size, 0, none⟩ [(z1, z2)] 1 1 (by rfl) rfl (row_of_blk (xs := [(z1, z2)]) (Blk.new wa _ _)) (by omega) (by rw [HL.out]; omega) (UA.alloc _).size ?_; intro g2 cap2 wb hown hg; have UB : Up W0 wb := Up.own (UA.alloc _) (World.ownsRow.alloc (Lo.le hown1 (by simp [World.drew])) _) hg)
      | (refine step_own (by rfl) _ _ (by rfl) W0.heap.size v1 xs (by rfl) (Lo.le hown1 (by simp [World.drew] <;> omega)) ⟨W0.heap.size + 1, 0, none⟩ [(z1, z2)] 1 1 (by rfl) rfl (row_of_blk (xs := [(z1, z2)]) hS) (by omega) (by rw [HL.out]; omega) UA.size ?_; intro g2 cap2 wb hown hg; have UB : Up W0 wb := Up.own UA (Lo.le hown1 (by simp [World.drew] <;> omega)) hg)
      | (refine step_own (by rfl) _ _ (by rfl) W0.heap.size v1 xs (by rfl) (Lo.le hown1 (by simp [World.drew] <;> omega)) ⟨W0.heap.size, 0, none⟩ [(z1, z2)] 1 1 (by rfl) rfl (row_of_blk (xs := [(z1, z2)]) hS) (by omega) (by rw [HL.out]; omega) UA.size ?_; intro g2 cap2 wb hown hg; have UB : Up W0 wb := Up.own UA (Lo.le hown1 (by simp [World.drew] <;> omega)) hg)
      | (go_at_call 18; ((refine (h1.out W0 _ _ UB (Sl.of_lo hown)).mono ?_); rintro e wz ⟨vy, rfl, hly, hz⟩; have UZ := Up.trans (a := W0) (by assumption) hz)))
  all_goals
    have U1 := U0.trans UZ
    have D1 := D0.up UZ
    have HO := Lib.hid (Sl.of_lo hly)
    have hv := HO.out
    have hom := hv.max
    obtain ⟨A5, c5, rfl, -⟩ := hv
    unfold maxLen at hom
    clear hly hz UZ UB hown D0 U0 UR h1
    generalize hlo : O.length = lo at *
    generalize hlp : P.length = lp at *
    go_wp2_with (fail)
    refine (h2.out _ U1).mono ?_
    rintro e w2 ⟨p2, rfl, hp2, k2⟩
    have HO2 := Lib.hid (HO.out.up k2)
    have HP2 := Lib.hid (Sl.of_lo hp2)
    have D2 := D1.up k2
    have D2c := D2.cell
    have U2 := Lib.hid (U1.trans k2)
    have hv := HP2.out
    have hpm := hv.max
    obtain ⟨A6, c6, e6, -⟩ := hv
    rw [hlp] at e6 hpm
    subst e6
    unfold maxLen at hpm
    have HLO := Lib.hid hlo
    have HLP := Lib.hid hlp
    clear hp2 k2 HO U1 D1 h2 hlo hlp
    go_wp2_with (fail)
    go_loopw [8, 9] (fun u8 u9 wr => LRel w w2 P (z1, z2) lp u8 u9 wr) (fun _ i _ => lp - (intOf i).toNat)
    case atStart => exact ⟨0, Nat.zero_le _, rfl, rfl, 0, rfl⟩
    case round =>
      obtain ⟨x, hxn, rfl, rfl, m, rfl⟩ := hrel
      by_cases hlt : x < lp
      · obtain ⟨pp, ep, hcp, hcp2⟩ := HP2.out.rd.at_ (x := x) hlt
        cases ep
        have hcx := hC.out x
        by_cases hpe : P.getD x (0, 0) = (z1, z2)
        · have hst := hN.out x hlt hpe
          have HST := Lib.hid hst
          rw [hpe] at hcp hcp2
          generalize cn P (z1, z2) x = t at *
          have he := eq_ent z1 z2 z1 z2
          rw [show bE z1 z2 z1 z2 = true from by rw [bE_eq, decide_eq_true rfl]] at he
          clear hst hpe
          go_wp2_with (fail)
          go_quiet (fail)
          go_wp2_with (fail)
          exact ⟨⟨x + 1, by omega, by go_num, by rw [HST.out], m + nq, by first | rfl | rw [World.drewN_drewN]⟩, by simp [intOf]; omega⟩
        · obtain ⟨hs1, hs2, hs3⟩ := hA.out x hlt hpe
          have HST := Lib.hid hs1
          obtain ⟨po, eo, hco, hco2⟩ := HO2.out.rd.at_ (x := cn P (z1, z2) x) hs2
          cases eo
          rw [hs3] at hco hco2
          generalize hb0 : P.getD x (0, 0) = b at *
          generalize cn P (z1, z2) x = t at *
          obtain ⟨b1, b2⟩ := b
          simp only [] at hcp hcp2 hco hco2
          have he := eq_ent b1 b2 z1 z2
          rw [show bE b1 b2 z1 z2 = false from by rw [bE_eq, decide_eq_false hpe]] at he
          have he2 := ne_ent b1 b2 b1 b2
          rw [show bE b1 b2 b1 b2 = true from by rw [bE_eq, decide_eq_true rfl]] at he2
          have hd : decide ((lo : Int) ≤ (t : Int)) = false := decide_eq_false (by omega)
          clear hs1 hs3 hb0 hpe
          go_wp2_with (fail)
          go_quiet (fail)
          go_wp2_with (fail)
          go_quiet (fail)
          go_wp2_with (fail)
          exact ⟨⟨x + 1, by omega, by go_num, by rw [HST.out]; go_num, _, by first | rfl | (rw [World.drewN_drewN]) | (rw [World.drewN_drewN, World.drewN_drewN])⟩, by simp [intOf]; omega⟩
      · obtain rfl : x = lp := by omega
        obtain ⟨he1, he2⟩ := hE.out
        obtain ⟨po, eo, hco, hco2⟩ := HO2.out.rd.at_ (x := cn P (z1, z2) x) (by omega)
        cases eo
        rw [he2] at hco hco2
        generalize cn P (z1, z2) x = t at *
        have he := eq_ent z1 z2 z1 z2
        rw [show bE z1 z2 z1 z2 = true from by rw [bE_eq, decide_eq_true rfl]] at he
        have hw1 : IntKind.i64.wrap ((t : Int) + 1) = (t : Int) + 1 := by rw [IntKind.wrap_i64]; omega
        have hd : ((lo : Int) == (t : Int) + 1) = true := beq_iff_eq.2 (by omega)
        have hlt2 : t < lo := by omega
        clear he1 he2 hxn hlt
        go_wp2_with (fail)
        go_quiet (fail)
        go_wp2
        go_ret
        exact ⟨rfl, (U2.out.drewN m).drewN nq⟩

theorem walk (v : Value) (xs : List Ent) (z1 z2 : Int) (w : World) (hx : Sl w v xs) (hk : ∀ x ∈ xs, OkE x) (hz : OkE (z1, z2)) (hb : xs.length ≤ 8796093021952) :
    Calls Try.prog 9 #[v, .agg #[.int .u64 z1, .int .i64 z2]] w (fun e w' => e = .returned (.bool true) ∧ Up w w') := by
  by_cases h : xs = []
  · exact walk_nil v xs z1 z2 w hx hk hz hb h
  · exact walk_cons v xs z1 z2 w hx hk hz hb h

theorem own : ownKnob Try.prog.godebug = none := by kernel_rfl
set_option maxRecDepth 100000 in
theorem lifted (os : Os) (started : os.Started) (H : Type) (enc : TypeId × Value → H) :
    ReturnsInHanded {} Try.checked os 9 .any (Rows.logLastSpec.pre6 enc Try.prog Try.f9 Rows.logLastRow.domain false) (Rows.logLastSpec.post enc Try.prog Try.f9 false true false false) := by
  refine returnsInHanded_of_change_sized (C := Try.checked) own started (by kernel_rfl) Try.func9
    (ChangeSpec.witness6 (enc := enc) (C := Try.checked) false ⟨#[], #[.slice none 0 0, .agg #[.int .u64 0, .int .i64 0]], []⟩ 8 (by kernel_rfl) (by kernel_rfl) (by kernel_rfl) (by kernel_rfl)) ?_
  intro W base args ds gs before hval0 hW hcnd hsz0 _
  have hval : ∀ (j : Nat) t v, Try.f9.params[j]? = some t → args[j]? = some v → Value.okWide Try.prog W .any base t v := hval0
  have hW' := hW
  obtain ⟨p, q, hA0, hV, rfl, hfz, hnd⟩ := hW
  have hA : DataW.TrodAll enc Try.prog W 0 (fun _ => true) true Try.f9.params.toList args.toList ds p := hA0
  rw [Try.params9] at hA hval
  obtain ⟨v0, vs0, d0, ds0, p0, q0, hargs, rfl, rfl, h0, r0⟩ := trodAll_cons hA
  obtain ⟨v1, vs1, d1, ds1, p1, q1, rfl, rfl, rfl, h1, r1⟩ := trodAll_cons r0
  obtain ⟨rfl, rfl, rfl⟩ := trodAll_nil r1
  obtain rfl : args = #[v0, v1] := by cases args; simp_all
  obtain ⟨rfl, rfl⟩ := trodVars_none hV
  have l0 : Light 22 d0 := fun n hn => by
    have := List.all_eq_true.1 hsz0 n (DataW.weights_mem_each (j := 0) (t := 22) (d := d0) (by kernel_rfl) rfl n hn)
    simpa using this
  clear hsz0
  have h0k := h0
  obtain ⟨xs0, s0, u0, b0, y0⟩ := ents_at (hval 0 22 v0 rfl rfl) h0
  have h1k := h1
  obtain ⟨z1, rfl, u1⟩ := ent_at (hval 1 25 v1 rfl rfl) h1
  clear hA0 hval0
  simp only [List.append_nil, List.nil_append] at hW'
  refine (walk v0 xs0 z1.1 z1.2 W s0 u0 u1 (y0 l0)).mono fun e W' ⟨he, hg⟩ => ?_
  subst he
  exact ⟨_, rfl, post_below (pa := p0 ++ p1) (pv := []) hW' (fun _ _ _ => (trodAll_cons_mk (shut_bool Try.underlying4 _) trodAll_mk0))
    (fun sp hsp => by
      have t := (trodAll_cons_mk (trod_keeps (sp := sp) (by kernel_rfl) (of_decide_eq_true (by kernel_rfl)) h0k hg (fun x hx => hW'.lt x (by simp [hx])) (fun x hx => hsp x (by simp [hx]))) (trodAll_cons_mk (trod_keeps (sp := sp) (by kernel_rfl) (of_decide_eq_true (by kernel_rfl)) h1k hg (fun x hx => hW'.lt x (by simp [hx])) (fun x hx => hsp x (by simp [hx]))) trodAll_mk0))
      simp only [List.append_nil, List.nil_append] at t
      exact t) (fun _ _ => rfl) (by simp)
    hg (ok_one (by kernel_rfl) rfl (okWide_bool_mk Try.underlying4 _))⟩

set_option maxRecDepth 100000 in
theorem over : Rows.logLastRow.holds Try.pinned (OpenSpec.ofChange Rows.logLastSpec) :=
  OpenClaim.holds_of_wide 9 Try.f9 rfl rfl rfl rfl rfl rfl rfl ⟨rfl, rfl, rfl, rfl, rfl⟩ rfl rfl rfl rfl rfl (by kernel_rfl) Try.func9 (by kernel_rfl)
    (of_decide_eq_true (by kernel_rfl)) (by unfold Func.isWrapper; first | (rw [if_pos (by decide +kernel)]; kernel_rfl) | (rw [if_neg (by decide +kernel)]; exact ⟨rfl, rfl⟩))
    (fun os started H enc _ => lifted os started H enc)

theorem proved : Rows.LogLastSaid :=
  over
#print axioms proved
end Go.Proofs.Ytgofejhjnbnecaa.LLogLast
