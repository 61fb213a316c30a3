/- The document's Put (dovecoteref16.Put): what its loops keep. -/
import Derived.Test.YtanhhkdoejnpiaaGreatPa
import Derived.Test.YtanhhkdoejnpiaaGreatGg
import Derived.Deep.AppendLies
namespace Go.Proofs.YtanhhkdoejnpiaaGreat.G
open Go.Joins Go.ChangeShapes Go.WideShapes Go.ChangeAt Go.RowKit Go.Deep Go.Shelf Go.Maps
set_option linter.unusedVariables false
set_option linter.unusedSimpArgs false

theorem rput_let {ns : List Nd} {k W : Nat} {s : Int} (P Q : Addr) (c d : Nat) (V : World) (hm : Sits V (mk W s (rowZ ns W k)) P Q c d) (h : k < ns.length) (hh : NdHd (ns.getD k ndN)) (hs : s = 0 ∨ s = 1) (h16 : 16 ≤ W) (hW : W ≤ 4096) (hf : ofs ns (k + 1) ≤ W) :
    Calls Tryz.prog 46 #[mev W P Q c d, .int .u64 (adr s (ofs ns k)), hdv (ns.getD k ndN).1.1 (ns.getD k ndN).1.2.1 (ns.getD k ndN).1.2.2] V fun e w' => ∃ P' Q' c' d', e = .returned (.tuple #[mev W P' Q' c' d', .int .i64 0]) ∧ Sits w' (mk W s (rowZ ns W (k + 1))) P' Q' c' d' ∧ Up V w' ∧ NewO V.heap.size P Q P' Q' := by
  have hst := ofs_step h
  obtain ⟨q1, q2⟩ := putZ h hh hs h16 hW hf
  have hp := pute_0.1 q2
  have h1 := oput_any (mk W s (rowZ ns W k)) (adr s (ofs ns k)) (ns.getD k ndN).1.1 (ns.getD k ndN).1.2.1 (ns.getD k ndN).1.2.2 P Q c d V hm (by unfold adr U64; omega) hh.h.m hp.1 hp.2
  rw [q1, mk_n] at h1
  refine h1.mono ?_
  rintro e w' ⟨P', Q', c', d', rfl, h2, h3, h4⟩
  rw [mk_n]
  exact ⟨P', Q', c', d', rfl, h2, h3, h4⟩
theorem rset_let {g : Gr} {k W i : Nat} {s : Int} (P Q : Addr) (c d : Nat) (V : World) (hm : Sits V (mk W s (rowS (Adr s g.1) g.1 W k i)) P Q c d) (hwf : (mk W s (rowS (Adr s g.1) g.1 W k i)).wf) (h : k < g.1.length) (hh : NdHd (g.1.getD k ndN)) (hs : s = 0 ∨ s = 1) (hW : W ≤ 4096) (hf : ofs g.1 (k + 1) ≤ W) (hi : i < (g.1.getD k ndN).2.length) :
    Calls Tryz.prog 48 #[mev W P Q c d, .int .u64 (adr s (ofs g.1 k)), .int .i64 i, .int .u64 ((mpF (Adr s g.1) (g.1.getD k ndN)).2.getD i 0)] V fun e w' => ∃ P' Q' c' d' x, e = .returned (.tuple #[mev W P' Q' c' d', .int .i64 x]) ∧ Sits w' (mk W s (rowS (Adr s g.1) g.1 W k (i + 1))) P' Q' c' d' ∧ Up V w' := by
  have hst := ofs_step h
  have h1 := rset_any (mk W s (rowS (Adr s g.1) g.1 W k i)) (adr s (ofs g.1 k)) i ((mpF (Adr s g.1) (g.1.getD k ndN)).2.getD i 0) P Q c d V hm (by unfold adr U64; omega) hwf
  rw [setS h hh hs hW hf hi, mk_n] at h1
  refine h1.mono ?_
  rintro e w' ⟨P', Q', c', d', rfl, h2, h3⟩
  rw [mk_n]
  exact ⟨P', Q', c', d', _, rfl, h2, h3⟩
/-- Memory of so many words in a box. -/
def BxW (W B9 : Nat) (m : Me) (wr : World) : Prop := ∃ P Q c d, Blk wr B9 25 (mec W P Q c d) ∧ Sits wr m P Q c d
/-- .. whose rows don't lie in the block of the call's own row. -/
def BxO (W B9 gb : Nat) (m : Me) (wr : World) : Prop := ∃ P Q c d, Blk wr B9 25 (mec W P Q c d) ∧ Sits wr m P Q c d ∧ FarB gb P Q
abbrev OwnA (s : Int) (g : Gr) (w : World) (x : Nat) (u : Value) (wr : World) : Prop := wr.ownsRow w.heap.size 67 1 u (x + 1) ((adl s g.1 x).map (Value.int .u64))
def PutR (ob : Bool) (g : Gr) (W : Nat) (s : Int) (w : World) (e : Ending) (w' : World) : Prop := if ob = true then PutYes g W s w e w' else PutNo 4 w e w'
def P1_ (g : Gr) (w : World) (va vb : Value) (s : Int) (W B9 : Nat) (u11 u12 i : Value) (wr : World) : Prop :=
  ∃ x gb cap : Nat, x ≤ g.1.length ∧ i = .int .i64 x ∧ u12 = .int .i64 (ofs g.1 x : Nat) ∧ ofs g.1 x ≤ W ∧ u11 = .slice (some ⟨gb, 0, none⟩) (x + 1) cap ∧ OwnA s g w x u11 wr ∧ BxO W B9 gb (mk W s (rowZ g.1 W x)) wr ∧ (mk W s (rowZ g.1 W x)).wf ∧ Pb w va vb wr
def P2_ (g : Gr) (w : World) (va vb : Value) (s : Int) (W B9 : Nat) (u11 : Value) (i : Value) (wr : World) : Prop :=
  ∃ x : Nat, x ≤ g.1.length ∧ i = .int .i64 x ∧ OwnA s g w g.1.length u11 wr ∧ BxW W B9 (mk W s (rowR (Adr s g.1) g.1 W x)) wr ∧ (mk W s (rowR (Adr s g.1) g.1 W x)).wf ∧ Pb w va vb wr
def P3_ (g : Gr) (w : World) (va vb : Value) (s : Int) (W B9 x : Nat) (u11 : Value) (i : Value) (wr : World) : Prop :=
  ∃ z : Nat, z ≤ (g.1.getD x ndN).2.length ∧ i = .int .i64 z ∧ OwnA s g w g.1.length u11 wr ∧ BxW W B9 (mk W s (rowS (Adr s g.1) g.1 W x z)) wr ∧ (mk W s (rowS (Adr s g.1) g.1 W x z)).wf ∧ Pb w va vb wr
theorem own_blk' {w : World} {base : Nat} {e : TypeId} {size : Nat} {g n c : Nat} {xs : List Value} (h : w.ownsRow base e size (.slice (some ⟨g, 0, none⟩) n c) n xs) : ∃ g' cap cur, (.slice (some ⟨g, 0, none⟩) n c : Value) = .slice (some ⟨g', 0, none⟩) n cap ∧ base ≤ g' ∧ Blk w g' e cur ∧ n ≤ cap := by
  rcases h.2 with ⟨q, _⟩ | ⟨g', cap, cur, q, hb, hg, hc, _⟩
  · cases q
  · exact ⟨g', cap, cur, q, hb, hg, hc⟩
theorem row_grown {w w' : World} {p : Addr} {xs : List Int} {row : Option Nat} (h : Row w p xs) (hg : w.grownBy w' row) (hn : some p.block ≠ row) : Row w' p xs :=
  ⟨Nat.lt_of_lt_of_le h.1 hg.size, fun j x hx => by
    rw [← h.2 j x hx]
    unfold World.cell?
    rw [block_of_add, hg.block p.block h.1 hn]⟩
theorem sits_grown {w w' : World} {m : Me} {p q : Addr} {c d : Nat} {row : Option Nat} (h : Sits w m p q c d) (hg : w.grownBy w' row) (h1 : some p.block ≠ row) (h2 : some q.block ≠ row) : Sits w' m p q c d :=
  ⟨h.1, h.2.1, h.2.2.1, h.2.2.2.1, h.2.2.2.2.1, row_grown h.2.2.2.2.2.1 hg h1, row_grown h.2.2.2.2.2.2 hg h2⟩
theorem size_set3 (w : World) (B : Nat) (u0 u1 u2 : Value) : (((w.setCell ⟨B, 0, none⟩ u0).setCell ⟨B, 1, none⟩ u1).setCell ⟨B, 2, none⟩ u2).heap.size = w.heap.size := by simp [World.setCell]
theorem p1_step {g : Gr} {w wr w5 : World} {va vb : Value} {s : Int} {W B9 x gb cap : Nat} {P Q P5 Q5 : Addr} {c d c5 d5 : Nat} (hx : x < g.1.length) (hn9 : g.1.length ≤ 1000) (hB9 : w.heap.size + 1 < B9)
    (ho : OwnA s g w x (.slice (some ⟨gb, 0, none⟩) (x + 1) cap) wr) (bB : Blk wr B9 25 (mec W P Q c d)) (hf : FarB gb P Q) (hpb : Pb w va vb wr) (k : Up wr w5)
    (s5 : Sits w5 (mk W s (rowZ g.1 W (x + 1))) P5 Q5 c5 d5) (o5 : NewO wr.heap.size P Q P5 Q5) (hwf : (mk W s (rowZ g.1 W (x + 1))).wf) (hof : ofs g.1 (x + 1) ≤ W) :
    ∃ g2 cap2 wz, (Builtin.append_ #[22, 22] 22 #[.slice (some ⟨gb, 0, none⟩) (x + 1) cap, .slice (some ⟨w5.heap.size, 0, none⟩) 1 1]).run Tryz.prog ((((w5.setCell ⟨B9, 0, none⟩ (.int .i64 W)).setCell ⟨B9, 1, none⟩ (.slice (some P5) W c5)).setCell ⟨B9, 2, none⟩ (.slice (some Q5) W d5)).alloc (.cells #[.int .u64 (adr s (ofs g.1 x))] 67)) = .ok (.slice (some ⟨g2, 0, none⟩) (x + 1 + 1) cap2) wz ∧
      P1_ g w va vb s W B9 (.slice (some ⟨g2, 0, none⟩) (x + 1 + 1) cap2) (.int .i64 (ofs g.1 (x + 1) : Nat)) (.int .i64 ((x + 1 : Nat) : Int)) wz := by
  have bB5 := bB.up k
  have ho5 := own_up ho k
  have hgb := (World.ownsRow.lt ho gb rfl).2
  obtain ⟨wa, hwa⟩ : ∃ wa, wa = ((w5.setCell ⟨B9, 0, none⟩ (.int .i64 W)).setCell ⟨B9, 1, none⟩ (.slice (some P5) W c5)).setCell ⟨B9, 2, none⟩ (.slice (some Q5) W d5) := ⟨_, rfl⟩
  have hsz : wa.heap.size = w5.heap.size := by rw [hwa, size_set3]
  have hoa : OwnA s g w x (.slice (some ⟨gb, 0, none⟩) (x + 1) cap) wa := by
    rw [hwa]
    exact own_keep ho5 (fun b cs hb => hb.far3 (hb.ne_type bB5 (by decide)) _ _ _)
  have sa : Sits wa (mk W s (rowZ g.1 W (x + 1))) P5 Q5 c5 d5 := by rw [hwa]; exact s5.far3 bB5 _ _ _
  have ba : Blk wa B9 25 (mec W P5 Q5 c5 d5) := by rw [hwa]; exact bB5.set3 _ _ _
  have hpa : Pb w va vb wa := by rw [hwa]; exact (hpb.upw k).set3 hB9 _ _ _
  have fa : FarB gb P5 Q5 := o5.far hf hgb
  rw [← hwa]
  have k6 : Up wa (wa.alloc (.cells #[.int .u64 (adr s (ofs g.1 x))] 67)) := (Up.refl wa).alloc _
  have s6 := sa.up k6
  obtain ⟨⟨i0, z, hi, hz0, hz1, hz2, hz3⟩, hu, hp, hsm⟩ := el_u64
  have hov := own_up hoa k6
  obtain ⟨g2, cap2, wz, r1, r2, r3, r4, r5⟩ := run_append_lies (P := Tryz.prog) (wa.alloc (.cells #[.int .u64 (adr s (ofs g.1 x))] 67)) 22 22 w.heap.size 67 i0 z 1 8 hu hi hz0 hz1 hz2 hz3 hp _ (x + 1) _ hov ⟨wa.heap.size, 0, none⟩ 1 1 [.int .u64 (adr s (ofs g.1 x))] rfl (by
    intro j u hj
    have := (Blk.new wa 67 #[.int .u64 (adr s (ofs g.1 x))]).cell j
    rw [add_zero', this]
    simpa using hj) (fun u hu => by rw [List.mem_singleton] at hu; subst hu; rfl) (by omega) (by unfold maxLen; omega) (by omega) (by have := hpa.up.size; simp; omega) _ rfl
  have h1 : P5.block < wa.heap.size := sa.2.2.2.2.2.1.1
  have h2 : Q5.block < wa.heap.size := sa.2.2.2.2.2.2.1
  have hrow : ∀ b, b ≠ gb → some b ≠ (Value.slice (some ⟨gb, 0, none⟩) (x + 1) cap).ownBlock := fun b hb e => hb (by simpa [Value.ownBlock] using e)
  have hg9 : B9 ≠ gb := fun e => by
    obtain ⟨g', cap', cur, e1, _, hb, _⟩ := own_blk' hoa
    cases e1
    exact hb.ne_type ba (by decide) e.symm
  have hgw : w.heap.size ≤ gb := (World.ownsRow.lt ho gb rfl).1
  have hgR : w.heap.size ≠ gb ∧ w.heap.size + 1 ≠ gb := by
    obtain ⟨g', cap', cur, e1, _, hb, _⟩ := own_blk' hoa
    cases e1
    exact ⟨fun e => hb.ne_type hpa.bG (by decide) e.symm, fun e => hb.ne_type hpa.bR (by decide) e.symm⟩
  rw [hsz] at r1
  refine ⟨g2, cap2, wz, r1, x + 1, g2, cap2, hx, rfl, rfl, hof, rfl, ?_, ⟨P5, Q5, c5, d5, (ba.up k6).grown r3 (hrow _ hg9), sits_grown s6 r3 (hrow _ fa.1) (hrow _ fa.2), ?_⟩, hwf, ?_⟩
  · have e : (adl s g.1 (x + 1)).map (Value.int .u64) = (adl s g.1 x).map (Value.int .u64) ++ [.int .u64 (adr s (ofs g.1 x))] := by rw [adl_snoc, List.map_append]; rfl
    show wz.ownsRow _ _ _ _ _ _
    rw [e]
    exact r2
  · rcases r4 with q | q
    · have : gb = g2 := by simpa [Value.ownBlock] using q
      subst this
      exact fa
    · have hl : (wa.alloc (.cells #[.int .u64 (adr s (ofs g.1 x))] 67)).heap.size = wa.heap.size + 1 := by simp
      exact ⟨by omega, by omega⟩
  · have hp6 := hpa.upw k6
    exact ⟨hp6.bG.grown r3 (hrow _ hgR.1), hp6.bR.grown r3 (hrow _ hgR.2), hp6.up.grown r3 (fun b e => by
      have : gb = b := by simpa [Value.ownBlock] using e
      omega)⟩
theorem mk_mcs (W : Nat) (s : Int) (row : List Int) (P Q : Addr) (c d : Nat) : mec (mk W s row).n P Q c d = mec W P Q c d := by rw [mk_n]
theorem mk_new (W : Nat) (s : Int) : mk W s (zers W) = ⟨W, zers W, zers W⟩ := by unfold mk Me.put; split <;> rfl

theorem adl_get (s : Int) (ns : List Nd) {x : Nat} (h : x < ns.length) : (adl s ns ns.length).getD (x + 1) 0 = adr s (ofs ns x) := by
  unfold adl
  simp [List.getD, h]
theorem p3_step {g : Gr} {w wr w5 : World} {va vb u : Value} {s : Int} {W B9 x z : Nat} {P Q P5 Q5 : Addr} {c d c5 d5 : Nat} (hz : z < (g.1.getD x ndN).2.length) (hB9 : w.heap.size + 1 < B9)
    (ho : OwnA s g w g.1.length u wr) (bB : Blk wr B9 25 (mec W P Q c d)) (hpb : Pb w va vb wr) (k : Up wr w5)
    (s5 : Sits w5 (mk W s (rowS (Adr s g.1) g.1 W x (z + 1))) P5 Q5 c5 d5) (hwf : (mk W s (rowS (Adr s g.1) g.1 W x (z + 1))).wf) :
    P3_ g w va vb s W B9 x u (.int .i64 ((z + 1 : Nat) : Int)) (((w5.setCell ⟨B9, 0, none⟩ (.int .i64 W)).setCell ⟨B9, 1, none⟩ (.slice (some P5) W c5)).setCell ⟨B9, 2, none⟩ (.slice (some Q5) W d5)) := by
  have bB5 := bB.up k
  have ho5 := own_up ho k
  exact ⟨z + 1, hz, rfl, own_keep ho5 (fun b cs hb => hb.far3 (hb.ne_type bB5 (by decide)) _ _ _), ⟨P5, Q5, c5, d5, bB5.set3 _ _ _, s5.far3 bB5 _ _ _⟩, hwf, (hpb.upw k).set3 hB9 _ _ _⟩

/-! ### Rows of words of the call's own -/
def OwU (base : Nat) (w : World) (us : List Value) (L : List (List Int)) : Prop := us.length = L.length ∧ ∀ (j : Nat) (u : Value) (xs : List Int), us[j]? = some u → L[j]? = some xs → w.ownsRow base 67 1 u xs.length (xs.map (Value.int .u64))
section
variable {base : Nat} {w w' : World} {us : List Value} {L : List (List Int)}
theorem OwU.keep (h : OwU base w us L) (hk : ∀ b cs, Blk w b 67 cs → Blk w' b 67 cs) : OwU base w' us L := ⟨h.1, fun j u xs h1 h2 => own_keep (h.2 j u xs h1 h2) hk⟩
theorem OwU.up (h : OwU base w us L) (k : Up w w') : OwU base w' us L := h.keep fun b cs hb => hb.up k
theorem OwU.gd (h : OwU base w us L) : Gd .u64 w us L := ⟨h.1, fun j u xs h1 h2 => sl_own (h.2 j u xs h1 h2) rfl⟩
theorem OwU.nil (base : Nat) (w : World) : OwU base w [] [] := ⟨rfl, fun j u xs h => by simp at h⟩
theorem OwU.snoc {u : Value} {xs : List Int} (h : OwU base w us L) (hu : w.ownsRow base 67 1 u xs.length (xs.map (Value.int .u64))) : OwU base w (us ++ [u]) (L ++ [xs]) := by
  refine ⟨by simp [h.1], fun j v ys h1 h2 => ?_⟩
  rcases Nat.lt_or_ge j us.length with q | q
  · rw [List.getElem?_append_left q] at h1
    rw [List.getElem?_append_left (by rw [← h.1]; exact q)] at h2
    exact h.2 j v ys h1 h2
  · rw [List.getElem?_append_right q] at h1
    rw [List.getElem?_append_right (by rw [← h.1]; exact q)] at h2
    have hj : j - us.length = 0 := by
      rcases Nat.eq_zero_or_pos (j - us.length) with q2 | q2
      · exact q2
      · rw [List.getElem?_eq_none (by rw [List.length_singleton]; exact q2)] at h1; cases h1
    rw [hj] at h1
    rw [← h.1, hj] at h2
    simp at h1 h2
    subst h1
    subst h2
    exact hu
end
theorem rw_of_own {k : IntKind} {w : World} {n₀ n : Nat} {e : TypeId} {v : Value} {us : List Value} {L : List (List Int)} (h : w.ownsRow n₀ e 1 v n us) (hu : us.length = n) (G : Gd k w us L) : Rw k w v L := by
  obtain ⟨A, c, rfl⟩ := own_slice h
  obtain ⟨_, q1, q2, q3, q4⟩ := rv_of_own h (by omega)
  exact ⟨us, A, c, by rw [← G.1, hu], by rw [← G.1]; omega, q2, q3, q4, G⟩
/-- Rows turned by a function, so many. -/
structure RwI (F : Int → Int) (L : List (List Int)) (wA : World) (j : Nat) (vs : Value) (us : List Value) (wr : World) : Prop where
  own : wr.ownsRow wA.heap.size 22 1 vs j us
  rows : OwU wA.heap.size wr us ((L.take j).map fun row => row.map F)
  up : Up wA wr
theorem RwI.upw {F : Int → Int} {L : List (List Int)} {wA wr wc : World} {j : Nat} {vs : Value} {us : List Value} (h : RwI F L wA j vs us wr) (k : Up wr wc) : RwI F L wA j vs us wc := ⟨own_up h.own k, h.rows.up k, h.up.trans k⟩
theorem RwI.nil (F : Int → Int) (L : List (List Int)) (wA : World) : RwI F L wA 0 (.slice none 0 0) [] wA := ⟨World.ownsRow_nil _ _ _ _, OwU.nil _ _, Up.refl _⟩
theorem RwI.fin {F : Int → Int} {L : List (List Int)} {wA wr wc wb : World} {j : Nat} {vs v2 u : Value} {us : List Value} (h : RwI F L wA j vs us wr) (k : Up wr wc) (hj : j < L.length) {row : List Int} (hrow : L.getD j [] = row) (hu : wc.ownsRow wr.heap.size 67 1 u row.length ((row.map F).map (Value.int .u64)))
    (hb : wb.ownsRow wA.heap.size 22 1 v2 (j + 1) (us ++ [u])) (hg : wc.grownBy wb vs.ownBlock) : RwI F L wA (j + 1) v2 (us ++ [u]) wb := by
  have hc := h.upw k
  have htk : L.take (j + 1) = L.take j ++ [row] := by
    rw [List.take_succ_eq_append_getElem hj, ← hrow]
    simp [List.getD, List.getElem?_eq_getElem hj]
  refine ⟨hb, ?_, up_own hc.up hc.own hg⟩
  rw [htk, List.map_append]
  refine (hc.rows.snoc (xs := row.map F) ?_).keep (fun b cs hb => hb.grown hg (own_row_ne hc.own hb (by decide)))
  rw [List.length_map]
  exact own_le hu h.up.size
theorem RwI.rw {F : Int → Int} {L : List (List Int)} {wA wr : World} {j : Nat} {vs : Value} {us : List Value} (h : RwI F L wA j vs us wr) (hj : j = L.length) : Rw .u64 wr vs (L.map fun row => row.map F) := by
  have hr := h.rows
  rw [List.take_of_length_le (by omega)] at hr
  exact rw_of_own h.own (by rw [hr.1, List.length_map, hj]) hr.gd
theorem RwI.rwk {F : Int → Int} {L : List (List Int)} {wA wr V : World} {j : Nat} {vs : Value} {us : List Value} (h : RwI F L wA j vs us wr) (hj : j = L.length) (k : ∀ b t cs, t ≠ 25 → Blk wr b t cs → Blk V b t cs) : Rw .u64 V vs (L.map fun row => row.map F) := by
  have hr := h.rows
  rw [List.take_of_length_le (by omega)] at hr
  exact rw_of_own (own_keep h.own (fun b cs hb => k b _ cs (by decide) hb)) (by rw [hr.1, List.length_map, hj]) (hr.keep (fun b cs hb => k b _ cs (by decide) hb)).gd
/-- One row, so many turned. -/
def RwR (F : Int → Int) (row : List Int) (wr : World) (u i : Value) (w5 : World) : Prop := ∃ x : Nat, x ≤ row.length ∧ i = .int .i64 x ∧ w5.ownsRow wr.heap.size 67 1 u x (((row.take x).map F).map (Value.int .u64)) ∧ Up wr w5
def R4_ (F : Int → Int) (L : List (List Int)) (wA : World) (vs i : Value) (wr : World) : Prop := ∃ (j : Nat) (us : List Value), j ≤ L.length ∧ i = .int .i64 j ∧ RwI F L wA j vs us wr
theorem wp_cells3 {w : World} {B : Nat} {t : TypeId} {a0 a1 a2 : Value} (h : Blk w B t #[a0, a1, a2]) : ∀ i, w.cell? ⟨B, i, none⟩ = (#[a0, a1, a2] : Array Value)[i]? := h.cell
end Go.Proofs.YtanhhkdoejnpiaaGreat.G
