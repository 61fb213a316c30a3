/- All addresses, each once (package stack: All, a range over a function and a map): contracts. -/
import Derived.Test.YtpbbbgcafphplaaSk7
namespace Go.Proofs.Ytpbbbgcafphplaa
open Go.Joins Go.ChangeShapes Go.WideShapes Go.ChangeAt Go.RowKit Go.Deep Go.Shelf Go.Maps
set_option linter.unusedVariables false
set_option linter.unusedSimpArgs false
attribute [local go_sem] Oper.semAt_some

/-- Each once, none 0. -/
def unq (l : List Int) : List Int := l.foldl (fun o a => if a ∈ 0 :: o then o else o ++ [a]) []
theorem unq_snoc (l : List Int) (a : Int) : unq (l ++ [a]) = if a ∈ 0 :: unq l then unq l else unq l ++ [a] := by
  unfold unq
  rw [List.foldl_append]
  rfl
theorem unq_len (l : List Int) : (unq l).length ≤ l.length := by
  obtain ⟨r, rfl⟩ : ∃ r : List Int, l = r.reverse := ⟨l.reverse, by simp⟩
  induction r with
  | nil => exact Nat.le_refl _
  | cons a r ih =>
    rw [List.reverse_cons, unq_snoc]
    split <;> simp only [List.length_append, List.length_cons, List.length_nil] <;> omega

/-- What All's boxes hold. -/
structure Al (g3 M B4 Bl : Nat) (v0 : Value) (w W : World) (out : List Int) : Prop where
  hr : ∃ v, Boxed W g3 22 v ∧ Lo W w.heap.size v out
  hk : Boxed W B4 51 (.map (some M))
  hp : W.ownsMap Try.prog 23 unitElem M (0 :: out).length (setD (0 :: out))
  hb : Cb w Bl v0 W
section
variable {g3 M B4 Bl : Nat} {v0 : Value} {w W W' : World} {out : List Int}
theorem Al.keep (h : Al g3 M B4 Bl v0 w W out) {row : Option Nat} (hg : W.grownBy W' row) (hr : ∀ r, row = some r → M < r ∧ w.heap.size ≤ r ∧ ∃ o : Obj, W.heap[r]? = some o ∧ o.isCells = false) : Al g3 M B4 Bl v0 w W' out := by
  have hr2 : ∀ r, row = some r → ∃ o : Obj, W.heap[r]? = some o ∧ o.isCells = false := fun r e => (hr r e).2.2
  have hn := h.hb.2.size
  have hB : Below w.heap.size W W' := (Below.refl w.heap.size W).grown hg hn (fun k e => (hr k e).2.1)
  obtain ⟨v, h1, h2⟩ := h.hr
  exact ⟨⟨v, blk_keep h1 hg hr2, lo_keep h2 hg hr2⟩, blk_keep h.hk hg hr2, h.hp.kept hg (fun e => by have := (hr _ e.symm).1; omega), blk_keep h.hb.1 hg hr2, Below.trans h.hb.2 hB⟩
theorem Al.up (h : Al g3 M B4 Bl v0 w W out) (k : Up W W') : Al g3 M B4 Bl v0 w W' out := by
  obtain ⟨v, h1, h2⟩ := h.hr
  exact ⟨⟨v, Blk.up h1 k, h2.up k⟩, Blk.up h.hk k, h.hp.kept k.gb (by simp), h.hb.up k⟩
end

set_option maxRecDepth 100000 in
set_option maxHeartbeats 4000000 in
theorem all_any (v : Value) (L : List (List Int)) (w : World) (hL : Rw w v L) (hu : ∀ xs ∈ L, ∀ x ∈ xs, U64 x) (hN : L.flatten.length ≤ 17592186044415) :
    Calls Try.prog 21 #[v] w (Rows1 w (unq L.flatten)) := by
  have hU : ∀ x ∈ L.flatten, U64 x := fun x hx => by
    obtain ⟨xs, h1, h2⟩ := List.mem_flatten.1 hx
    exact hu xs h1 x h2
  have HL := Lib.hid hL
  have HU := Lib.hid hU
  have HN := Lib.hid hN
  have hmm := @run_makeMap Try.prog
  have hkey0 := key_of (show U64 0 from ⟨by decide, by decide⟩)
  obtain ⟨i0, hi, hz0, hz1, hz2⟩ := info_parts info_u64
  obtain ⟨A, c, rfl, -⟩ := hL
  generalize hn : L.length = n at *
  clear hu hU hN hn
  have hmade := World.ownsMap_made (w.alloc (.cells #[.slice none 0 0] 22)) Try.prog 23 (unitElem (H := Unit))
  refine (callsIn_wide (n := 5)).1 ?_
  refine callsIn_of_wp_marks Try.func21 rfl trivial ?_ rfl
  simp only [Try.ntmps21, List.size_toArray, List.length_cons, List.length_nil, Nat.reduceAdd, Nat.reduceSub, Array.replicate_succ, Array.replicate_zero, List.push_toArray, List.append_toArray, List.nil_append, List.cons_append]
  gi_wp2_with (first
    | (gi_at_mapUpdate; fail)
    | (refine wpListIn_insert_own _ rfl _ _ _ 51 rfl 23 50 law64 Try.underlying51 unitElem (w.heap.size + 1) 0 (.map []) rfl (by simpa using hmade) (by unfold maxLen; omega) _ _ (.int .u64 0) rfl rfl hkey0 (.agg []) [] unitElem_mk ?_; intro w2 hown2 hgrow2)
    | (refine ⟨trivial, ?_⟩; gi_at_call 28; refine (callsIn_wide.2 (addresses_any _ _ ⟨_, _, _, rfl⟩)).mono ?_; rintro e w' ⟨rfl, rfl⟩))
  obtain ⟨W0, hW0⟩ : ∃ W0, W0 = (w2.alloc (.cells #[.map (some (w.heap.size + 1))] 51)).alloc (.cells #[.slice A n c] 24) := ⟨_, rfl⟩
  have U2 : Below w.heap.size w w2 := Below.trans ((Up.refl w).alloc (.cells #[.slice none 0 0] 22)) (Below.trans ((Below.refl w.heap.size _).alloc (by simp) (.map #[] 0)) ((Below.refl w.heap.size _).grown hgrow2 (by simp; omega) (fun k e => by cases e; omega)))
  have hz2' : w.heap.size + 2 ≤ w2.heap.size := by have := hgrow2.size; simp at this; omega
  have hr2 : ∀ r, some (w.heap.size + 1) = some r → ∃ o : Obj, ((w.alloc (.cells #[.slice none 0 0] 22)).alloc (.map #[] 0)).heap[r]? = some o ∧ o.isCells = false := fun r e => by
    cases e
    have := World.alloc_heap_new (w.alloc (.cells #[.slice none 0 0] 22)) (.map #[] 0)
    rw [World.size_alloc] at this
    exact ⟨_, this, rfl⟩
  have S0 : Al w.heap.size (w.heap.size + 1) w2.heap.size (w2.heap.size + 1) (.slice A n c) w W0 [] := by
    rw [hW0]
    refine ⟨⟨.slice none 0 0, ((blk_keep ((Blk.new w 22 #[.slice none 0 0]).alloc (.map #[] 0)) hgrow2 hr2).alloc _).alloc _, Lo.nil _ _⟩, (Blk.new w2 _ _).alloc _, ?_, Blk.new' _ (by simp) _ _, ?_⟩
    · exact (hown2.alloc _).alloc _
    · exact Up.alloc (Up.alloc U2 _) _
  have hWz : W0.heap.size = w2.heap.size + 1 + 1 := by rw [hW0]; simp
  rw [← hW0]
  clear hW0 hown2 hgrow2 hr2 U2 hmade
  have HS0 := Lib.hid S0
  have hWw : w.heap.size ≤ W0.heap.size := by omega
  refine wpIn_rangeFunc_ownG rfl (by decide) (gf := 30) (lb := #[bx (w2.heap.size + 1)]) rfl trivial (enters_of Try.func30 (by kernel_rfl) rfl)
    (addresses_stops 4 (by decide) (.slice A n c) L (w2.heap.size + 1) w W0 HL.out HU.out S0.hb) KpR.t (KpR.b hWw) (Below.refl _ _) (fun _ => rfl)
    (fun pre W => Al w.heap.size (w.heap.size + 1) w2.heap.size (w2.heap.size + 1) (.slice A n c) w W (unq (pre.map clip)))
    (fun _ _ _ => False)
    (fun pre W W' row hs hg hr => hs.keep hg (fun r e => ⟨by have := (hr r e).1; omega, by have := (hr r e).1; omega, (hr r e).2⟩))
    (fun _ _ _ _ _ hs _ _ => hs)
    S0
    (fun x => { tmps := #[.slice A n c, undef, .slice none 0 0, bx w.heap.size, bx w2.heap.size, .int .u64 (clip x), undef, undef, .map (some (w.heap.size + 1)), .agg #[], .map (some (w.heap.size + 1)), .slice A n c, .func (.func 30) #[] #[bx (w2.heap.size + 1)], .int .u64 (clip x), undef, undef, undef, undef, undef, undef, undef, undef, undef, undef, undef, undef, undef, undef, undef], defers := [] })
    ?assign ?body ?done ?stop
  case assign =>
    intro l x W K hK
    dsimp only at hK ⊢
    generalize clip x = b at hK ⊢
    gi_wp2
    exact hK
  case body =>
    rintro l pre x W hS hlt
    have hb := clip_u64 x
    have hsn : Hid (unq ((pre ++ [x]).map clip) = if clip x ∈ 0 :: unq (pre.map clip) then unq (pre.map clip) else unq (pre.map clip) ++ [clip x]) := Lib.hid (by rw [List.map_append]; exact unq_snoc _ _)
    have hul : (unq (pre.map clip)).length ≤ 17592186044414 := by
      have h1 := unq_len (pre.map clip)
      rw [List.length_map] at h1
      have h2 := HN.out
      omega
    generalize unq (pre.map clip) = out at *
    generalize clip x = a at *
    have hkey := key_of hb
    have hkc := hS.hk.cell
    have hp := hS.hp
    have hzW := hS.hb.2.size
    have hh := setD_has (0 :: out) a
    have HS := Lib.hid hS
    clear hS hb
    by_cases hin : a ∈ 0 :: out
    · rw [decide_eq_true hin] at hh
      have hE := hsn.out
      rw [if_pos hin] at hE
      have HE := Lib.hid hE
      clear hE hin hsn
      gi_wp2_with (gi_at_lookup; refine wpListIn_lookup_own_unit _ rfl _ _ 51 rfl 23 50 law64 Try.underlying51 (zeroS _) (w.heap.size + 1) (0 :: out).length (setD (0 :: out)) rfl hp _ _ rfl hkey ?_; rw [hh])
      have U1 := (Up.refl W).alloc (.cells #[] 50)
      exact ⟨U1.kf, KpR.up U1 hzW, (show Al _ _ _ _ _ w _ (unq ((pre ++ [x]).map clip)) from by rw [HE.out]; exact HS.out.up U1)⟩
    · rw [decide_eq_false hin] at hh
      have hE := hsn.out
      rw [if_neg hin] at hE
      have HE := Lib.hid hE
      clear hE hin hsn
      have S1 := HS.out.up ((Up.refl W).alloc (.cells #[] 50))
      obtain ⟨v, hv1, ho1⟩ := S1.hr
      have hp1 := S1.hp
      have hk1 := S1.hk
      have hk1c := hk1.cell
      have O1 : Hid (∃ o, (W.alloc (.cells #[] 50)).heap[w.heap.size + 1]? = some o ∧ o.isCells = false) := Lib.hid (by
        obtain ⟨es, clock, hb, _⟩ := hp1
        exact ⟨_, hb, rfl⟩)
      gi_wp2_with (first
        | (gi_at_lookup; refine wpListIn_lookup_own_unit _ rfl _ _ 51 rfl 23 50 law64 Try.underlying51 (zeroS _) (w.heap.size + 1) (0 :: out).length (setD (0 :: out)) rfl hp _ _ rfl hkey ?_; rw [hh])
        | (gi_at_mapUpdate; refine wpListIn_mapUpdate_own _ rfl _ _ _ 51 rfl 23 50 law64 Try.underlying51 unitElem (w.heap.size + 1) (0 :: out).length (setD (0 :: out)) rfl hp1 (by unfold maxLen; simp only [List.length_cons]; omega) _ _ (.int .u64 a) rfl rfl hkey (.agg []) [] unitElem_mk ?_; intro w3 hown3 hgrow3; have hv3 := hv1.kept hgrow3 (by simp); have hv3c := hv3.cell; have ho3 : Lo w3 w.heap.size v out := World.ownsRow.kept ho1 hgrow3 (own_ne_obj ho1 O1.out))
        | (gi_at_builtin; refine wpListIn_append_own_at _ rfl _ _ 22 rfl w.heap.size 23 i0 (.int .u64 0) 1 8 Try.underlying22 hi hz0 hz1 hz2 rfl (by decide) _ _ _ rfl (World.ownsRow.alloc ho3 _) ⟨w3.heap.size, 0, none⟩ 1 1 [.int .u64 a] rfl rfl (cell_one_new _ _ _) (by simp [Value.oneCell']) (by unfold maxLen; omega) (by omega) (by have := hgrow3.size; simp at this ⊢; omega) ?_; intro v' w4 hown4 hgrow4 _ hloc4; obtain ⟨g', cap', rfl⟩ := ownsRow_succ hown4; obtain ⟨hv4, hv5, hr5, hk5, hb5⟩ := hv3.appended (by decide) ho3 (by have := hgrow3.size; simp at this; omega) (Nat.le_refl _) hown4 hgrow4; have hc4 := hv4.cell; have hf4 := hv4.frozen))
      have hg4 : (w3.alloc (.cells #[.int .u64 a] 23)).grownBy w4 v.ownBlock := hgrow4
      have U1 := (Up.refl W).alloc (.cells #[] 50)
      have hz1 : W.heap.size ≤ (W.alloc (.cells #[] 50)).heap.size := U1.size
      have hk3 : Boxed w3 w2.heap.size 51 (.map (some (w.heap.size + 1))) := hk1.kept hgrow3 (by simp; omega)
      have hb3 : Blk w3 (w2.heap.size + 1) 24 #[.slice A n c] := S1.hb.1.grown hgrow3 (by simp; omega)
      have hk4b := blk_app hv3 hv4 ho3 hg4 (blk_of hk3) (by decide) (by decide) (v' := Value.slice (some ⟨g', 0, none⟩) (out.length + 1) cap')
      have hb4b := blk_app hv3 hv4 ho3 hg4 hb3 (by decide) (by decide) (v' := Value.slice (some ⟨g', 0, none⟩) (out.length + 1) cap')
      have hlen : (out ++ [a]).length = out.length + 1 := by simp
      have ho4 : Lo (w4.setCell ⟨w.heap.size, 0, none⟩ (Value.slice (some ⟨g', 0, none⟩) (out.length + 1) cap')) w.heap.size (Value.slice (some ⟨g', 0, none⟩) (out.length + 1) cap') (out ++ [a]) := by
        unfold Lo
        rw [hlen, show wds (out ++ [a]) = wds out ++ [Value.int .u64 a] from by simp [wds, wd]]
        exact hr5
      have hp4 : (w4.setCell ⟨w.heap.size, 0, none⟩ (Value.slice (some ⟨g', 0, none⟩) (out.length + 1) cap')).ownsMap Try.prog 23 unitElem (w.heap.size + 1) (0 :: (out ++ [a])).length (setD (0 :: (out ++ [a]))) := by
        rw [show (0 :: (out ++ [a])).length = (0 :: out).length + 1 from by simp, show (0 :: (out ++ [a])) = (0 :: out) ++ [a] from rfl, setD_snoc]
        refine World.ownsMap.setCell ((hown3.alloc (.cells #[.int .u64 a] 23)).kept hg4 ?_) (by simp only []; omega) _
        obtain ⟨es, clock, hb, _⟩ := hown3
        rcases own_ne_obj ho3 ⟨_, hb, rfl⟩ with e | e
        · rw [e]; simp
        · exact fun q => e q.symm
      have B3 : Below w.heap.size (W.alloc (.cells #[] 50)) w3 := (Below.refl w.heap.size _).grown hgrow3 (by omega) (fun k e => by cases e; omega)
      have S4 : Al w.heap.size (w.heap.size + 1) w2.heap.size (w2.heap.size + 1) (.slice A n c) w (w4.setCell ⟨w.heap.size, 0, none⟩ (Value.slice (some ⟨g', 0, none⟩) (out.length + 1) cap')) (out ++ [a]) :=
        ⟨⟨_, hv5, ho4⟩, hk4b, hp4, hb4b, Below.trans S1.hb.2 (Below.trans B3 hb5)⟩
      have hm2 : w.heap.size + 1 < W0.heap.size := by omega
      refine ⟨(U1.kf.trans (KeepsFrom.of_grownBy hgrow3 (fun j e => by cases e; exact hm2))).trans (hk5.from _), ⟨Below.trans (U1.bel hzW) (Below.trans B3 hb5), fun g cs hb => ?_⟩, (show Al _ _ _ _ _ w _ (unq ((pre ++ [x]).map clip)) from by rw [HE.out]; exact S4)⟩
      exact blk_app hv3 hv4 ho3 hg4 ((hb.up U1).grown hgrow3 (fun e => by
        cases e
        obtain ⟨o, ho, hc⟩ := O1.out
        have h1 := hb.up U1
        unfold Blk at h1
        rw [h1] at ho
        cases ho
        cases hc)) (by decide) (by decide)
  case done =>
    rintro D zs W hD rfl hS hK
    have hS : Al _ _ _ _ _ w W (unq ((L.flatten).map clip)) := hS
    rw [clip_all HU.out] at hS
    obtain ⟨v, hv, ho⟩ := hS.hr
    have hc := hv.cell
    have hB := hS.hb.2
    gi_wp2
    refine ⟨by simp, .inl ⟨_, _, rfl, run_takeDeferred hK, ?_⟩⟩
    exact ⟨_, results_tmp rfl _ _ _, v, rfl, ownsRow_putObj ho _ hK rfl, Below.trans hB (belowK_b (w := W0) hWw W D _ _ hD hK rfl rfl)⟩
  case stop =>
    rintro D c pre W _ _ h _
    exact h.elim
end Go.Proofs.Ytpbbbgcafphplaa
