/- What is put lies in the rows that were, or in new ones. -/
import Derived.Test.YtanhhkdoejnpiaaGreatAj
namespace Go.Proofs.YtanhhkdoejnpiaaGreat
open Go.ChangeShapes Go.WideShapes Go.ChangeAt Go.RowKit
set_option linter.unusedVariables false
set_option linter.unusedSimpArgs false

/-- Rows that were, or new ones. -/
def NewO (h : Nat) (P Q P' Q' : Addr) : Prop := (P' = P ∨ h ≤ P'.block) ∧ (Q' = Q ∨ h ≤ Q'.block)
theorem NewO.refl (h : Nat) (P Q : Addr) : NewO h P Q P Q := ⟨.inl rfl, .inl rfl⟩
theorem NewO.le {h h' : Nat} {P Q P' Q' : Addr} (o : NewO h' P Q P' Q') (k : h ≤ h') : NewO h P Q P' Q' := ⟨o.1.imp id (fun x => Nat.le_trans k x), o.2.imp id (fun x => Nat.le_trans k x)⟩
theorem NewO.trans {h : Nat} {P Q P' Q' P2 Q2 : Addr} (o : NewO h P Q P' Q') (u : NewO h P' Q' P2 Q2) : NewO h P Q P2 Q2 := by
  refine ⟨?_, ?_⟩
  · rcases u.1 with rfl | q
    · exact o.1
    · exact .inr q
  · rcases u.2 with rfl | q
    · exact o.2
    · exact .inr q
/-- No row of it lies in the block. -/
def FarB (B : Nat) (P Q : Addr) : Prop := P.block ≠ B ∧ Q.block ≠ B
theorem NewO.far {h B : Nat} {P Q P' Q' : Addr} (o : NewO h P Q P' Q') (f : FarB B P Q) (k : B < h) : FarB B P' Q' := by
  refine ⟨?_, ?_⟩
  · rcases o.1 with rfl | q
    · exact f.1
    · omega
  · rcases o.2 with rfl | q
    · exact f.2
    · omega
def GivesO (P Q : Addr) (w : World) (m : Me) (x : Value) (e : Ending) (w' : World) : Prop := ∃ P' Q' c d, e = .returned (.tuple #[.agg #[.int .i64 m.n, .slice (some P') m.n c, .slice (some Q') m.n d], x]) ∧ Sits w' m P' Q' c d ∧ Up w w' ∧ NewO w.heap.size P Q P' Q'

set_option maxHeartbeats 2000000 in
theorem ostore_at0 (n : Nat) (xs ys : List Int) (a v : Int) (k : Nat) (P Q : Addr) (c d : Nat) (w : World) (hm : Sits w ⟨n, xs, ys⟩ P Q c d) (ha : U64 a) (hl : Leads a 0 k) (hk : k < n) :
    Calls Tryz.prog 89 #[.agg #[.int .i64 n, .slice (some P) n c, .slice (some Q) n d], .int .u64 a, .int .u64 v] w (GivesO P Q w ⟨n, xs.set k v, ys⟩ (.int .i64 0)) := by
  have hw := Lib.hid (fun w => rwhere_yes a 0 k ha hl w)
  have ht := Lib.hid (fun w => rthere_yes0 n k a P Q c d w ha hl hk)
  have h16 := hm.1.1
  have hn := hm.1.2.1
  have hx := hm.1.2.2.1
  have hR := hm.2.2.2.2.2.1
  simp only at hx hR h16 hn
  have Hx := Lib.hid hx
  have HM := Lib.hid hm
  obtain ⟨i0, hi0, hz0, hz1, hz2⟩ := info_parts info_u64
  have Hi := Lib.hid hi0
  have Hz := Lib.hid hz0
  have Hz1 := Lib.hid hz1
  have Hz2 := Lib.hid hz2
  clear ha hl hm hx hi0 hz0 hz1 hz2
  go_enter Tryz.func89, Tryz.ntmps89
  go_wp2_with (fail)
  refine (ht.out _).mono ?_
  rintro e w1 ⟨rfl, h1⟩
  have D1 := ((Blk.new w 25 _).alloc _).up h1
  have F1 := (Blk.new _ 25 _).up h1
  simp at F1
  have U1 : Up w w1 := (((Up.refl w).alloc _).alloc _).trans h1
  clear h1
  go_wp2_with (fail)
  refine (hw.out _).mono ?_
  rintro e w2 ⟨rfl, rfl⟩
  have D1c := D1.cell
  have D1l := D1.lt
  go_wp2_with (with_reducible refine halt_at (o := ⟨some 31, _, _, _, _, _⟩) ?_)
  unfold Halt
  refine wpList_append_own _ rfl (.tmp 26) (.tmp 30) 22 rfl w1.heap.size 67 i0 (.int .u64 0) 1 8 Tryz.underlying22 Hi.out Hz.out Hz1.out Hz2.out rfl (by omega) (.slice (some ⟨w1.heap.size, 0, none⟩) 0 0) 0 [] rfl ?c1 P n c (wds xs) rfl ?c2 ?c3 (one_wds _) ?c4 ?c5 ?c6 ?_
  case c1 => exact ⟨rfl, .inr ⟨w1.heap.size, 0, #[], rfl, Nat.le_refl _, heap_alloc_new _ _, Nat.le_refl _, Nat.zero_le _, rfl, rfl⟩⟩
  case c2 => rw [len_wds, Hx.out]; omega
  case c3 => exact (hR.up (U1.alloc _)).src
  case c4 => unfold maxLen; omega
  case c5 => omega
  case c6 => simp
  intro v' w3 hown hgr _
  rw [Nat.zero_add, List.nil_append] at hown
  obtain ⟨g, cap, cur, rfl, hbg, G3, hc1, hc2, hc3, hc4⟩ := own_blk hown (by omega)
  have D3 := (D1.alloc _).grown hgr (by simp [Value.ownBlock]; omega)
  have F3 := (F1.alloc _).grown hgr (by have := F1.lt; simp [Value.ownBlock]; omega)
  have U3 : Up w w3 := (U1.alloc _).grown hgr (by have := U1.size; intro q hq; simp [Value.ownBlock] at hq; omega)
  clear hown hgr D1c
  have HC4 := Lib.hid hc4
  have gc : w3.cell? ⟨g, k, none⟩ = some (.int .u64 (xs.getD k 0)) := by rw [← add_zero']; exact (row_of_take G3 hc4).at_ k (by rw [Hx.out]; exact hk)
  have gf := G3.frozen k
  have D3c := D3.cell
  have D3l := D3.lt
  have F3c := F3.cell
  have F3f := F3.frozen
  have F3l := F3.lt
  have G3l := G3.lt
  have hgD : ¬ g = w.heap.size := by omega
  have hgD' : ¬ w.heap.size = g := by omega
  have hgF : ¬ g = w.heap.size + 1 := by have := F1.lt; omega
  have hgF' : ¬ w.heap.size + 1 = g := by omega
  have hkc : k < cap := by omega
  have hwg : w.heap.size ≤ g := by omega
  clear hc4 D1 F1 hbg
  have hlen : (xs.set k v).length = n := by rw [List.length_set, Hx.out]
  go_wp2
  refine bodyPost_ret (v := .tuple #[.agg #[.int .i64 n, (.slice (some ⟨g, 0, none⟩) n cap), (.slice (some Q) n d)], .int .i64 0]) (by simp [results, Tryz.results89, go_sem, F3c, F3l, hgF, hgF']) rfl ?_
  have Uf := ((U3.setCell (p := ⟨g, k, none⟩) hwg (.int .u64 v)).set3 (g := w.heap.size + 1) (by omega) (.int .i64 n) (.slice (some ⟨g, 0, none⟩) n cap) (.slice (some Q) n d)).alloc (.cells #[.int .i64 n, (.slice (some ⟨g, 0, none⟩) n cap), (.slice (some Q) n d)] 25)
  have Gf := ((((G3.set_ k (.int .u64 v)).far (p := ⟨w.heap.size + 1, 0, none⟩) hgF (.int .i64 n)).far (p := ⟨w.heap.size + 1, 1, none⟩) hgF (.slice (some ⟨g, 0, none⟩) n cap)).far (p := ⟨w.heap.size + 1, 2, none⟩) hgF (.slice (some Q) n d)).alloc (.cells #[.int .i64 n, (.slice (some ⟨g, 0, none⟩) n cap), (.slice (some Q) n d)] 25)
  have Rf := row_of_take Gf (take_set HC4.out hk)
  obtain ⟨⟨_, _, q0, q1⟩, q2, q3, q4, q5, q6, q7⟩ := HM.out
  exact ⟨⟨g, 0, none⟩, Q, cap, d, rfl, ⟨⟨h16, hn, hlen, q1⟩, hc1, hc2, q4, q5, Rf, q7.up Uf⟩, Uf, .inr hwg, .inl rfl⟩

set_option maxHeartbeats 2000000 in
theorem ostore_at1 (n : Nat) (xs ys : List Int) (a v : Int) (k : Nat) (P Q : Addr) (c d : Nat) (w : World) (hm : Sits w ⟨n, xs, ys⟩ P Q c d) (ha : U64 a) (hl : Leads a 1 k) (hk : k < n) :
    Calls Tryz.prog 89 #[.agg #[.int .i64 n, .slice (some P) n c, .slice (some Q) n d], .int .u64 a, .int .u64 v] w (GivesO P Q w ⟨n, xs, ys.set k v⟩ (.int .i64 0)) := by
  have hw := Lib.hid (fun w => rwhere_yes a 1 k ha hl w)
  have ht := Lib.hid (fun w => rthere_yes1 n k a P Q c d w ha hl hk)
  have h16 := hm.1.1
  have hn := hm.1.2.1
  have hx := hm.1.2.2.2
  have hR := hm.2.2.2.2.2.2
  simp only at hx hR h16 hn
  have Hx := Lib.hid hx
  have HM := Lib.hid hm
  obtain ⟨i0, hi0, hz0, hz1, hz2⟩ := info_parts info_u64
  have Hi := Lib.hid hi0
  have Hz := Lib.hid hz0
  have Hz1 := Lib.hid hz1
  have Hz2 := Lib.hid hz2
  clear ha hl hm hx hi0 hz0 hz1 hz2
  go_enter Tryz.func89, Tryz.ntmps89
  go_wp2_with (fail)
  refine (ht.out _).mono ?_
  rintro e w1 ⟨rfl, h1⟩
  have D1 := ((Blk.new w 25 _).alloc _).up h1
  have F1 := (Blk.new _ 25 _).up h1
  simp at F1
  have U1 : Up w w1 := (((Up.refl w).alloc _).alloc _).trans h1
  clear h1
  go_wp2_with (fail)
  refine (hw.out _).mono ?_
  rintro e w2 ⟨rfl, rfl⟩
  have D1c := D1.cell
  have D1l := D1.lt
  go_wp2_with (with_reducible refine halt_at (o := ⟨some 31, _, _, _, _, _⟩) ?_)
  unfold Halt
  refine wpList_append_own _ rfl (.tmp 26) (.tmp 30) 22 rfl w1.heap.size 67 i0 (.int .u64 0) 1 8 Tryz.underlying22 Hi.out Hz.out Hz1.out Hz2.out rfl (by omega) (.slice (some ⟨w1.heap.size, 0, none⟩) 0 0) 0 [] rfl ?c1 Q n d (wds ys) rfl ?c2 ?c3 (one_wds _) ?c4 ?c5 ?c6 ?_
  case c1 => exact ⟨rfl, .inr ⟨w1.heap.size, 0, #[], rfl, Nat.le_refl _, heap_alloc_new _ _, Nat.le_refl _, Nat.zero_le _, rfl, rfl⟩⟩
  case c2 => rw [len_wds, Hx.out]; omega
  case c3 => exact (hR.up (U1.alloc _)).src
  case c4 => unfold maxLen; omega
  case c5 => omega
  case c6 => simp
  intro v' w3 hown hgr _
  rw [Nat.zero_add, List.nil_append] at hown
  obtain ⟨g, cap, cur, rfl, hbg, G3, hc1, hc2, hc3, hc4⟩ := own_blk hown (by omega)
  have D3 := (D1.alloc _).grown hgr (by simp [Value.ownBlock]; omega)
  have F3 := (F1.alloc _).grown hgr (by have := F1.lt; simp [Value.ownBlock]; omega)
  have U3 : Up w w3 := (U1.alloc _).grown hgr (by have := U1.size; intro q hq; simp [Value.ownBlock] at hq; omega)
  clear hown hgr D1c
  have HC4 := Lib.hid hc4
  have gc : w3.cell? ⟨g, k, none⟩ = some (.int .u64 (ys.getD k 0)) := by rw [← add_zero']; exact (row_of_take G3 hc4).at_ k (by rw [Hx.out]; exact hk)
  have gf := G3.frozen k
  have D3c := D3.cell
  have D3l := D3.lt
  have F3c := F3.cell
  have F3f := F3.frozen
  have F3l := F3.lt
  have G3l := G3.lt
  have hgD : ¬ g = w.heap.size := by omega
  have hgD' : ¬ w.heap.size = g := by omega
  have hgF : ¬ g = w.heap.size + 1 := by have := F1.lt; omega
  have hgF' : ¬ w.heap.size + 1 = g := by omega
  have hkc : k < cap := by omega
  have hwg : w.heap.size ≤ g := by omega
  clear hc4 D1 F1 hbg
  have hlen : (ys.set k v).length = n := by rw [List.length_set, Hx.out]
  go_wp2
  refine bodyPost_ret (v := .tuple #[.agg #[.int .i64 n, (.slice (some P) n c), (.slice (some ⟨g, 0, none⟩) n cap)], .int .i64 0]) (by simp [results, Tryz.results89, go_sem, F3c, F3l, hgF, hgF']) rfl ?_
  have Uf := ((U3.setCell (p := ⟨g, k, none⟩) hwg (.int .u64 v)).set3 (g := w.heap.size + 1) (by omega) (.int .i64 n) (.slice (some P) n c) (.slice (some ⟨g, 0, none⟩) n cap)).alloc (.cells #[.int .i64 n, (.slice (some P) n c), (.slice (some ⟨g, 0, none⟩) n cap)] 25)
  have Gf := ((((G3.set_ k (.int .u64 v)).far (p := ⟨w.heap.size + 1, 0, none⟩) hgF (.int .i64 n)).far (p := ⟨w.heap.size + 1, 1, none⟩) hgF (.slice (some P) n c)).far (p := ⟨w.heap.size + 1, 2, none⟩) hgF (.slice (some ⟨g, 0, none⟩) n cap)).alloc (.cells #[.int .i64 n, (.slice (some P) n c), (.slice (some ⟨g, 0, none⟩) n cap)] 25)
  have Rf := row_of_take Gf (take_set HC4.out hk)
  obtain ⟨⟨_, _, q0, q1⟩, q2, q3, q4, q5, q6, q7⟩ := HM.out
  exact ⟨P, ⟨g, 0, none⟩, c, cap, rfl, ⟨⟨h16, hn, q0, hlen⟩, q2, q3, hc1, hc2, q6.up Uf, Rf⟩, Uf, .inl rfl, .inr hwg⟩

theorem ostore_any (m : Me) (a v : Int) (P Q : Addr) (c d : Nat) (w : World) (hm : Sits w m P Q c d) (ha : U64 a) (h : m.there a) :
    Calls Tryz.prog 89 #[.agg #[.int .i64 m.n, .slice (some P) m.n c, .slice (some Q) m.n d], .int .u64 a, .int .u64 v] w (GivesO P Q w (m.st a v) (.int .i64 0)) := by
  rcases leads_or a ha with ⟨s, p, hl⟩ | hb
  · obtain ⟨e1, e2, e3⟩ := hl.is
    obtain ⟨k, rfl⟩ : ∃ k : Nat, p = k := ⟨p.toNat, by have := hl.2.1; omega⟩
    have hp : k < m.n := by have := h.2; omega
    rw [show m.st a v = m.put (whs a) ((m.sp (whs a)).set (whp a).toNat v) from if_pos h, e1, e2, Int.toNat_natCast]
    rcases hl.1 with rfl | rfl
    · exact ostore_at0 m.n m.xs m.ys a v k P Q c d w hm ha hl hp
    · exact ostore_at1 m.n m.xs m.ys a v k P Q c d w hm ha hl hp
  · exact absurd h.1 (by rw [hb]; decide)

set_option maxHeartbeats 2000000 in
theorem oput_fill (m : Me) (a l mp : Int) (P Q : Addr) (c d : Nat) (w : World) (hm : Sits w m P Q c d) (ha : U64 a) (hmp : 0 ≤ mp) (hh : rte 255 l mp = 0) (hi : m.inn a (wdn 255 l)) :
    Calls Tryz.prog 46 #[.agg #[.int .i64 m.n, .slice (some P) m.n c, .slice (some Q) m.n d], .int .u64 a, hdv 255 l mp] w (GivesO P Q w (m.st a (wrd 255 l mp)) (.int .i64 0)) := by
  have hw := fun w => rword_any 255 l mp hmp w
  rw [show wov 255 l mp = wrd 255 l mp from if_pos hh, hh] at hw
  have hwd := Lib.hid (fun w => rhwords_any 255 l mp hmp hh w)
  have hth := fun w => rthere5_any m a (wdn 255 l) P Q c d w hm.1.2.1 ha (wdn_small hmp hh).1
  rw [decide_eq_true hi] at hth
  have hw := Lib.hid hw
  have hth := Lib.hid hth
  have HM := Lib.hid hm
  have hst := Lib.hid (fun (W : World) (hS : Sits W m P Q c d) => show Calls Tryz.prog 89 #[.agg #[.int .i64 m.n, .slice (some P) m.n c, .slice (some Q) m.n d], .int .u64 a, .int .u64 (wrd 255 l mp)] W (GivesO P Q W (m.st a (wrd 255 l mp)) (.int .i64 0)) from by
    have h := ostore_any m a (wrd 255 l mp) P Q c d W hS ha (pok_there hmp ⟨hh, hi⟩)
    exact h)
  clear hm ha hmp hh hi
  generalize wdn 255 l = k at hwd hth
  generalize m.st a (wrd 255 l mp) = K at hst ⊢
  generalize wrd 255 l mp = wv at hw hst
  go_enter Tryz.func46, Tryz.ntmps46
  go_wp2_with (fail)
  refine (hw.out _).mono ?_
  rintro e w1 ⟨rfl, h1⟩
  have M1 : Blk w1 w.heap.size 25 #[.int .i64 m.n, .slice (some P) m.n c, .slice (some Q) m.n d] := (((Blk.new' w rfl _ _).alloc (.cells #[.int .i64 255, .int .i64 l, .int .u64 mp] 69)).alloc (.cells #[.int .i64 0, .slice none 0 0, .slice none 0 0] 25)).up h1
  have H1 : Blk w1 (w.heap.size + 1) 69 #[.int .i64 255, .int .i64 l, .int .u64 mp] := ((Blk.new' (w.alloc (.cells #[.int .i64 m.n, .slice (some P) m.n c, .slice (some Q) m.n d] 25)) (by simp) _ _).alloc (.cells #[.int .i64 0, .slice none 0 0, .slice none 0 0] 25)).up h1
  have R1 : Blk w1 (w.heap.size + 1 + 1) 25 #[.int .i64 0, .slice none 0 0, .slice none 0 0] := (Blk.new' ((w.alloc (.cells #[.int .i64 m.n, .slice (some P) m.n c, .slice (some Q) m.n d] 25)).alloc (.cells #[.int .i64 255, .int .i64 l, .int .u64 mp] 69)) (by simp) _ _).up h1
  have U1 : Up w w1 := ((((Up.refl w).alloc _).alloc _).alloc _).trans h1
  clear h1
  have M2 := M1.drew
  have H2 := H1.drew
  have R2 := R1.drew
  have U2 := U1.drew
  have UU := Up.refl w1.drew
  have M1c := M1.cell
  have M1f := M1.frozen
  have M1l := M1.lt
  have H1c := H1.cell
  have H1f := H1.frozen
  have H1l := H1.lt
  go_wp2_with (fail)
  clear M1 H1 R1 U1 M1c M1f M1l H1c H1f H1l
  go_region_held3 (fun w' => (∀ i, w'.cell? ⟨w.heap.size, i, none⟩ = (#[.int .i64 m.n, .slice (some P) m.n c, .slice (some Q) m.n d] : Array Value)[i]?) ∧ (∀ i, w'.cell? ⟨w.heap.size + 1, i, none⟩ = (#[.int .i64 255, .int .i64 l, .int .u64 mp] : Array Value)[i]?))
    (exact ⟨fun i => (Blk.up M2 (by assumption)).cell i, fun i => (Blk.up H2 (by assumption)).cell i⟩)
    (first
      | (go_at_call 44; ((with_reducible refine (hwd.out _).mono ?_); rintro e wz ⟨rfl, hz⟩; have UZ := Up.trans (a := w1.drew) (by assumption) hz))
      | (go_at_call 81; ((with_reducible refine (hth.out _).mono ?_); rintro e wz ⟨rfl, hz⟩; have UZ := Up.trans (a := w1.drew) (by assumption) hz)))
  have M3 := M2.up UZ
  have H3 := H2.up UZ
  have R3 := R2.up UZ
  have U3 := U2.trans UZ
  have M3c := M3.cell
  have M3f := M3.frozen
  have M3l := M3.lt
  have H3c := H3.cell
  have H3f := H3.frozen
  have H3l := H3.lt
  have R3c := R3.cell
  have R3f := R3.frozen
  have R3l := R3.lt
  go_wp2_with (fail)
  refine (hst.out _ (HM.out.up U3)).mono ?_
  rintro e w4 ⟨P4, Q4, c4, d4, rfl, S4, h4, o4⟩
  have O4 := o4.le U3.size
  clear o4
  have M4 := M3.up h4
  have H4 := H3.up h4
  have R4 := R3.up h4
  have U4 := U3.trans h4
  clear M3c M3f M3l M3 H3c H3f H3l H3 R3c R3f R3l R3
  clear h4 U3
  have M4c := M4.cell
  have M4f := M4.frozen
  have M4l := M4.lt
  have H4c := H4.cell
  have H4f := H4.frozen
  have H4l := H4.lt
  have R4c := R4.cell
  have R4f := R4.frozen
  have R4l := R4.lt
  have U5 := U4.set3 (g := w.heap.size) (Nat.le_refl _) (.int .i64 K.n) (.slice (some P4) K.n c4) (.slice (some Q4) K.n d4)
  have S5 := S4.far3 M4 (.int .i64 K.n) (.slice (some P4) K.n c4) (.slice (some Q4) K.n d4)
  have R5 := ((R4.far (p := ⟨w.heap.size, 0, none⟩) (by simp <;> omega) (.int .i64 K.n)).far (p := ⟨w.heap.size, 1, none⟩) (by simp <;> omega) (.slice (some P4) K.n c4)).far (p := ⟨w.heap.size, 2, none⟩) (by simp <;> omega) (.slice (some Q4) K.n d4)
  go_wp2
  refine bodyPost_ret (v := .tuple #[.agg #[.int .i64 K.n, .slice (some P4) K.n c4, .slice (some Q4) K.n d4], .int .i64 0]) (by simp [results, Tryz.results46, go_sem, R4c, R4l, Nat.ne_of_lt R4l]) rfl ⟨P4, Q4, c4, d4, rfl, S5.far3 R5 _ _ _, U5.set3 (by omega) _ _ _, O4⟩

/-- Where the memory of a round lies. -/
def PutRO (h : Nat) (P0 Q0 : Addr) (m : Me) (a : Int) (L B : Nat) (w0 : World) (i : Value) (wr : World) : Prop := ∃ k : Nat, k ≤ L ∧ i = .int .i64 (k : Int) ∧ Kp [B] w0 wr ∧ ∃ P Q c d, Box wr B (m.zs a k) P Q c d ∧ NewO h P0 Q0 P Q

set_option maxHeartbeats 4000000 in
theorem oput_obj (m : Me) (a t l mp : Int) (P Q : Addr) (c d : Nat) (w : World) (hm : Sits w m P Q c d) (ha : U64 a) (hmp : 0 ≤ mp) (hh : rte t l mp = 0) (hi : m.inn a (wdn t l)) (ht : t ≠ 255) :
    Calls Tryz.prog 46 #[.agg #[.int .i64 m.n, .slice (some P) m.n c, .slice (some Q) m.n d], .int .u64 a, hdv t l mp] w (GivesO P Q w ((m.st a (wrd t l mp)).zs a (l + 1).toNat) (.int .i64 0)) := by
  have hw := fun w => rword_any t l mp hmp w
  rw [show wov t l mp = wrd t l mp from if_pos hh, hh] at hw
  have hwd := Lib.hid (fun w => rhwords_any t l mp hmp hh w)
  have hth := fun w => rthere5_any m a (wdn t l) P Q c d w hm.1.2.1 ha (wdn_small hmp hh).1
  rw [decide_eq_true hi] at hth
  have hw := Lib.hid hw
  have hth := Lib.hid hth
  have HM := Lib.hid hm
  have hst := Lib.hid (fun (W : World) (hS : Sits W m P Q c d) => show Calls Tryz.prog 89 #[.agg #[.int .i64 m.n, .slice (some P) m.n c, .slice (some Q) m.n d], .int .u64 a, .int .u64 (wrd t l mp)] W (GivesO P Q W (m.st a (wrd t l mp)) (.int .i64 0)) from by
    have h := ostore_any m a (wrd t l mp) P Q c d W hS ha (pok_there hmp ⟨hh, hi⟩)
    exact h)
  obtain ⟨n, rfl⟩ : ∃ n : Nat, l = n := ⟨l.toNat, by have := (rte_small hmp hh).2.2.1; omega⟩
  have n16 : n ≤ 16 := by have := (rte_small hmp hh).2.2.2.2.2; omega
  have hi' : m.inn a (n + 2) := by rw [← show wdn t n = (n : Int) + 2 from if_neg ht]; exact hi
  have hoff := Lib.hid (fun (k : Nat) (hk : k < n + 1) => (inn_off (j := (k + 1 : Int)) hm.1.2.1 hi' (by omega) (by omega)).2.2)
  have hb : (t == 255) = false := beq_eq_false_iff_ne.mpr ht
  have a0 := ha.1
  have hKn := Lib.hid (Me.st_n m a (wrd t n mp))
  rw [show ((n : Int) + 1).toNat = n + 1 from by omega]
  clear hm ha hmp hh hi hi' ht
  generalize wdn t n = kk at hwd hth
  generalize m.st a (wrd t n mp) = K at hst hKn ⊢
  generalize wrd t n mp = wv at hw hst
  go_enter Tryz.func46, Tryz.ntmps46
  go_wp2_with (fail)
  refine (hw.out _).mono ?_
  rintro e w1 ⟨rfl, h1⟩
  have M1 : Blk w1 w.heap.size 25 #[.int .i64 m.n, .slice (some P) m.n c, .slice (some Q) m.n d] := (((Blk.new' w rfl _ _).alloc (.cells #[.int .i64 t, .int .i64 n, .int .u64 mp] 69)).alloc (.cells #[.int .i64 0, .slice none 0 0, .slice none 0 0] 25)).up h1
  have H1 : Blk w1 (w.heap.size + 1) 69 #[.int .i64 t, .int .i64 n, .int .u64 mp] := ((Blk.new' (w.alloc (.cells #[.int .i64 m.n, .slice (some P) m.n c, .slice (some Q) m.n d] 25)) (by simp) _ _).alloc (.cells #[.int .i64 0, .slice none 0 0, .slice none 0 0] 25)).up h1
  have R1 : Blk w1 (w.heap.size + 1 + 1) 25 #[.int .i64 0, .slice none 0 0, .slice none 0 0] := (Blk.new' ((w.alloc (.cells #[.int .i64 m.n, .slice (some P) m.n c, .slice (some Q) m.n d] 25)).alloc (.cells #[.int .i64 t, .int .i64 n, .int .u64 mp] 69)) (by simp) _ _).up h1
  have U1 : Up w w1 := ((((Up.refl w).alloc _).alloc _).alloc _).trans h1
  clear h1
  have M2 := M1.drew
  have H2 := H1.drew
  have R2 := R1.drew
  have U2 := U1.drew
  have UU := Up.refl w1.drew
  have M1c := M1.cell
  have M1f := M1.frozen
  have M1l := M1.lt
  have H1c := H1.cell
  have H1f := H1.frozen
  have H1l := H1.lt
  go_wp2_with (fail)
  clear M1 H1 R1 U1 M1c M1f M1l H1c H1f H1l
  go_region_held3 (fun w' => (∀ i, w'.cell? ⟨w.heap.size, i, none⟩ = (#[.int .i64 m.n, .slice (some P) m.n c, .slice (some Q) m.n d] : Array Value)[i]?) ∧ (∀ i, w'.cell? ⟨w.heap.size + 1, i, none⟩ = (#[.int .i64 t, .int .i64 n, .int .u64 mp] : Array Value)[i]?))
    (exact ⟨fun i => (Blk.up M2 (by assumption)).cell i, fun i => (Blk.up H2 (by assumption)).cell i⟩)
    (first
      | (go_at_call 44; ((with_reducible refine (hwd.out _).mono ?_); rintro e wz ⟨rfl, hz⟩; have UZ := Up.trans (a := w1.drew) (by assumption) hz))
      | (go_at_call 81; ((with_reducible refine (hth.out _).mono ?_); rintro e wz ⟨rfl, hz⟩; have UZ := Up.trans (a := w1.drew) (by assumption) hz)))
  have M3 := M2.up UZ
  have H3 := H2.up UZ
  have R3 := R2.up UZ
  have U3 := U2.trans UZ
  have M3c := M3.cell
  have M3f := M3.frozen
  have M3l := M3.lt
  have H3c := H3.cell
  have H3f := H3.frozen
  have H3l := H3.lt
  have R3c := R3.cell
  have R3f := R3.frozen
  have R3l := R3.lt
  go_wp2_with (fail)
  refine (hst.out _ (HM.out.up U3)).mono ?_
  rintro e w4 ⟨P4, Q4, c4, d4, rfl, S4, h4, o4⟩
  have O4 := o4.le U3.size
  clear o4
  have M4 := M3.up h4
  have H4 := H3.up h4
  have R4 := R3.up h4
  have U4 := U3.trans h4
  clear M3c M3f M3l M3 H3c H3f H3l H3 R3c R3f R3l R3
  clear h4 U3
  have M4c := M4.cell
  have M4f := M4.frozen
  have M4l := M4.lt
  have H4c := H4.cell
  have H4f := H4.frozen
  have H4l := H4.lt
  have R4c := R4.cell
  have R4f := R4.frozen
  have R4l := R4.lt
  go_wp2_with (fail)
  generalize hW0 : ((w4.setCell ⟨w.heap.size, 0, none⟩ (.int .i64 K.n)).setCell ⟨w.heap.size, 1, none⟩ (.slice (some P4) K.n c4)).setCell ⟨w.heap.size, 2, none⟩ (.slice (some Q4) K.n d4) = W0
  have M5 : Blk W0 w.heap.size 25 #[.int .i64 K.n, .slice (some P4) K.n c4, .slice (some Q4) K.n d4] := by rw [← hW0]; exact M4.set3 _ _ _
  have S5 : Sits W0 K P4 Q4 c4 d4 := by rw [← hW0]; exact S4.far3 M4 _ _ _
  have U5 : Up w W0 := by rw [← hW0]; exact U4.set3 (Nat.le_refl _) _ _ _
  have R5 : Blk W0 (w.heap.size + 1 + 1) 25 #[.int .i64 0, .slice none 0 0, .slice none 0 0] := by rw [← hW0]; exact ((R4.far (by simp <;> omega) _).far (by simp <;> omega) _).far (by simp <;> omega) _
  have H5 : Blk W0 (w.heap.size + 1) 69 #[.int .i64 t, .int .i64 n, .int .u64 mp] := by rw [← hW0]; exact ((H4.far (by simp <;> omega) _).far (by simp <;> omega) _).far (by simp <;> omega) _
  clear hW0 M4 S4 R4 H4 M4c M4f M4l R4c R4f R4l H4c H4f H4l U4
  go_loopw [11] (PutRO w.heap.size P Q K a (n + 1) w.heap.size W0) (fun i _ => n + 1 - (intOf i).toNat)
  case atStart => exact ⟨0, Nat.zero_le _, rfl, Kp.refl _ _, P4, Q4, c4, d4, ⟨M5, S5⟩, O4⟩
  case round =>
    obtain ⟨k, hk, rfl, hK, P1, Q1, c1, d1, hM, hO⟩ := hrel
    have U6 := U5.kp hK (by simp)
    have M6 := hM.1
    have S6 := hM.2
    have H6 := H5.kp hK (by simp)
    have R6 := R5.kp hK (by simp <;> omega)
    have M6c := M6.cell
    have M6f := M6.frozen
    have M6l := M6.lt
    have H6c := H6.cell
    have H6f := H6.frozen
    have H6l := H6.lt
    have R6c := R6.cell
    have R6f := R6.frozen
    have R6l := R6.lt
    by_cases hlt : k < n + 1
    · obtain ⟨htk, b0, b1⟩ := hoff.out k hlt
      obtain ⟨N, hNe⟩ : ∃ N, K.zs a k = N := ⟨_, rfl⟩
      have hNn : N.n = m.n := by rw [← hNe, Me.zs_n]; exact hKn.out
      rw [hNe] at M6 S6 M6c
      have htN : N.there (a + (k + 1)) := (there_n hNn _).2 htk
      rw [show a + ((k : Int) + 1) = a + 1 + k from by omega] at b0 b1
      have hst2 := Lib.hid (fun (W : World) (hS : Sits W N P1 Q1 c1 d1) => show Calls Tryz.prog 89 #[.agg #[.int .i64 N.n, .slice (some P1) N.n c1, .slice (some Q1) N.n d1], .int .u64 (a + 1 + k), .int .u64 0] W (GivesO P1 Q1 W (K.zs a (k + 1)) (.int .i64 0)) from by
        have h := ostore_any N (a + (k + 1)) 0 P1 Q1 c1 d1 W hS (by rw [show a + ((k : Int) + 1) = a + 1 + k from by omega]; exact ⟨b0, b1⟩) htN
        rw [← hNe] at h
        rw [← hNe, show a + 1 + (k : Int) = a + (k + 1) from by omega]
        exact h)
      have hd : decide (k ≤ n) = true := decide_eq_true (by omega)
      have S6h := Lib.hid S6
      clear hM hNe hNn htN htk S6
      generalize hZ : K.zs a (k + 1) = Z at hst2
      have HZ := Lib.hid hZ
      clear hZ
      go_wp2_with (fail)
      refine (hst2.out _ S6h.out).mono ?_
      rintro e w7 ⟨P7, Q7, c7, d7, rfl, S7, h7, o7⟩
      have O7 := hO.trans (o7.le U6.size)
      clear o7 hO
      have M7 := M6.up h7
      have R7 := R6.up h7
      have U7 := U6.trans h7
      have K7 := hK.up h7
      clear h7 M6c M6f M6l R6c R6f R6l H6c H6f H6l M6 R6 U6 hK
      have M7c := M7.cell
      have M7f := M7.frozen
      have M7l := M7.lt
      have R7c := R7.cell
      have R7f := R7.frozen
      have R7l := R7.lt
      go_wp2
      refine ⟨⟨k + 1, hlt, by go_num, K7.set3 (by simp) _ _ _, P7, Q7, c7, d7, ?_, O7⟩, by simp [intOf]; omega⟩
      rw [HZ.out]
      exact ⟨M7.set3 _ _ _, S7.far3 M7 _ _ _⟩
    · obtain rfl : k = n + 1 := by omega
      have hd : decide (n + 1 ≤ n) = false := decide_eq_false (by omega)
      go_wp2
      refine bodyPost_ret (v := .tuple #[.agg #[.int .i64 (K.zs a (n + 1)).n, .slice (some P1) (K.zs a (n + 1)).n c1, .slice (some Q1) (K.zs a (n + 1)).n d1], .int .i64 0]) (by simp [results, Tryz.results46, go_sem, R6c, R6l]) rfl ⟨P1, Q1, c1, d1, rfl, S6.far3 R6 _ _ _, U6.set3 (by omega) _ _ _, hO⟩

theorem oput_any (m : Me) (a t l mp : Int) (P Q : Addr) (c d : Nat) (w : World) (hm : Sits w m P Q c d) (ha : U64 a) (hmp : 0 ≤ mp) (hh : rte t l mp = 0) (hi : m.inn a (wdn t l)) :
    Calls Tryz.prog 46 #[.agg #[.int .i64 m.n, .slice (some P) m.n c, .slice (some Q) m.n d], .int .u64 a, hdv t l mp] w (GivesO P Q w (m.putm a t l mp) (.int .i64 0)) := by
  rw [show m.putm a t l mp = _ from if_pos ⟨hh, hi⟩]
  by_cases ht : t = 255
  · subst ht
    rw [show (m.st a (wrd 255 l mp)).blk a 255 l = m.st a (wrd 255 l mp) from if_pos rfl]
    exact oput_fill m a l mp P Q c d w hm ha hmp hh hi
  · rw [show (m.st a (wrd t l mp)).blk a t l = _ from if_neg ht]
    exact oput_obj m a t l mp P Q c d w hm ha hmp hh hi ht
end Go.Proofs.YtanhhkdoejnpiaaGreat
