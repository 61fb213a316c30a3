/- The document's answers for memory (dovecoteref03): contract of Store. -/
import Derived.Test.YtgcpkgogjcgfbaaRf1
import Derived.OwnWalk
namespace Go.Proofs.Ytgcpkgogjcgfbaa
open Go.ChangeShapes Go.WideShapes Go.ChangeAt Go.RowKit
set_option linter.unusedVariables false
set_option linter.unusedSimpArgs false

/-- A row that a call has made by append: its block, its words. -/
theorem own_blk {w : World} {base : Nat} {e : TypeId} {v : Value} {n : Nat} {xs : List Int} (h : w.ownsRow base e 1 v n (wds xs)) (hn : 0 < n) :
    ∃ g cap cur, v = .slice (some ⟨g, 0, none⟩) n cap ∧ base ≤ g ∧ Blk w g e cur ∧ n ≤ cap ∧ cap ≤ maxLen ∧ n ≤ cur.size ∧ cur.toList.take n = wds xs := by
  rcases h.2 with ⟨_, h0⟩ | ⟨g, cap, cur, hv, hb, hg, hc, hm, hs, ht⟩
  · omega
  · exact ⟨g, cap, cur, hv, hb, hg, hc, hm, by omega, by simpa using ht⟩
theorem row_of_take {w : World} {g : Nat} {t : TypeId} {cur : Array Value} {xs : List Int} {n : Nat} (h : Blk w g t cur) (ht : cur.toList.take n = wds xs) : Row w ⟨g, 0, none⟩ xs := by
  refine ⟨h.lt, fun j x hx => ?_⟩
  rw [add_zero', h.cell j]
  have e : (cur.toList.take n)[j]? = some (wd x) := by rw [ht]; simp [wds, hx]
  rw [List.getElem?_take] at e
  split at e
  · simpa [wd] using e
  · cases e
theorem take_set {cur : Array Value} {xs : List Int} {n k : Nat} {v : Int} (ht : cur.toList.take n = wds xs) (hk : k < n) : (cur.setIfInBounds k (.int .u64 v)).toList.take n = wds (xs.set k v) := by
  rw [Array.toList_setIfInBounds, List.take_set, ht]
  simp [wds, List.map_set, wd]

set_option maxHeartbeats 2000000 in
theorem rstore_at0 (n : Nat) (xs ys : List Int) (a v : Int) (k : Nat) (P Q : Addr) (c d : Nat) (w : World) (hm : Sits w ⟨n, xs, ys⟩ P Q c d) (ha : U64 a) (hl : Leads a 0 k) (hk : k < n) :
    Calls Try.prog 44 #[.agg #[.int .i64 n, .slice (some P) n c, .slice (some Q) n d], .int .u64 a, .int .u64 v] w (Gives1 w ⟨n, xs.set k v, ys⟩ (.int .i64 0)) := by
  have hw := Lib.hid (fun w => rwhere_yes a 0 k ha hl w)
  have ht := Lib.hid (fun w => rthere_yes0 n k a P Q c d w ha hl hk)
  have h16 := hm.1.1
  have hn := hm.1.2.1
  have hx := hm.1.2.2.1
  have hR := hm.2.2.2.2.2.1
  simp only at hx hR h16 hn
  have Hx := Lib.hid hx
  have HM := Lib.hid hm
  obtain ⟨i0, hi0, hz0, hz1, hz2⟩ := info_parts info_u64
  have Hi := Lib.hid hi0
  have Hz := Lib.hid hz0
  have Hz1 := Lib.hid hz1
  have Hz2 := Lib.hid hz2
  clear ha hl hm hx hi0 hz0 hz1 hz2
  go_enter Try.func44, Try.ntmps44
  go_wp2_with (fail)
  refine (ht.out _).mono ?_
  rintro e w1 ⟨rfl, h1⟩
  have D1 := ((Blk.new w 25 _).alloc _).up h1
  have F1 := (Blk.new _ 25 _).up h1
  simp at F1
  have U1 : Up w w1 := (((Up.refl w).alloc _).alloc _).trans h1
  clear h1
  go_wp2_with (fail)
  refine (hw.out _).mono ?_
  rintro e w2 ⟨rfl, rfl⟩
  have D1c := D1.cell
  have D1l := D1.lt
  go_wp2_with (with_reducible refine halt_at (o := ⟨some 31, _, _, _, _, _⟩) ?_)
  unfold Halt
  refine wpList_append_own _ rfl (.tmp 26) (.tmp 30) 22 rfl w1.heap.size 44 i0 (.int .u64 0) 1 8 Try.underlying22 Hi.out Hz.out Hz1.out Hz2.out rfl (by omega) (.slice (some ⟨w1.heap.size, 0, none⟩) 0 0) 0 [] rfl ?c1 P n c (wds xs) rfl ?c2 ?c3 (one_wds _) ?c4 ?c5 ?c6 ?_
  case c1 => exact ⟨rfl, .inr ⟨w1.heap.size, 0, #[], rfl, Nat.le_refl _, heap_alloc_new _ _, Nat.le_refl _, Nat.zero_le _, rfl, rfl⟩⟩
  case c2 => rw [len_wds, Hx.out]; omega
  case c3 => exact (hR.up (U1.alloc _)).src
  case c4 => unfold maxLen; omega
  case c5 => omega
  case c6 => simp
  intro v' w3 hown hgr _
  rw [Nat.zero_add, List.nil_append] at hown
  obtain ⟨g, cap, cur, rfl, hbg, G3, hc1, hc2, hc3, hc4⟩ := own_blk hown (by omega)
  have D3 := (D1.alloc _).grown hgr (by simp [Value.ownBlock]; omega)
  have F3 := (F1.alloc _).grown hgr (by have := F1.lt; simp [Value.ownBlock]; omega)
  have U3 : Up w w3 := (U1.alloc _).grown hgr (by have := U1.size; intro q hq; simp [Value.ownBlock] at hq; omega)
  clear hown hgr D1c
  have HC4 := Lib.hid hc4
  have gc : w3.cell? ⟨g, k, none⟩ = some (.int .u64 (xs.getD k 0)) := by rw [← add_zero']; exact (row_of_take G3 hc4).at_ k (by rw [Hx.out]; exact hk)
  have gf := G3.frozen k
  have D3c := D3.cell
  have D3l := D3.lt
  have F3c := F3.cell
  have F3f := F3.frozen
  have F3l := F3.lt
  have G3l := G3.lt
  have hgD : ¬ g = w.heap.size := by omega
  have hgD' : ¬ w.heap.size = g := by omega
  have hgF : ¬ g = w.heap.size + 1 := by have := F1.lt; omega
  have hgF' : ¬ w.heap.size + 1 = g := by omega
  have hkc : k < cap := by omega
  have hwg : w.heap.size ≤ g := by omega
  clear hc4 D1 F1 hbg
  have hlen : (xs.set k v).length = n := by rw [List.length_set, Hx.out]
  go_wp2
  refine bodyPost_ret (v := .tuple #[.agg #[.int .i64 n, (.slice (some ⟨g, 0, none⟩) n cap), (.slice (some Q) n d)], .int .i64 0]) (by simp [results, Try.results44, go_sem, F3c, F3l, hgF, hgF']) rfl ?_
  have Uf := ((U3.setCell (p := ⟨g, k, none⟩) hwg (.int .u64 v)).set3 (g := w.heap.size + 1) (by omega) (.int .i64 n) (.slice (some ⟨g, 0, none⟩) n cap) (.slice (some Q) n d)).alloc (.cells #[.int .i64 n, (.slice (some ⟨g, 0, none⟩) n cap), (.slice (some Q) n d)] 25)
  have Gf := ((((G3.set_ k (.int .u64 v)).far (p := ⟨w.heap.size + 1, 0, none⟩) hgF (.int .i64 n)).far (p := ⟨w.heap.size + 1, 1, none⟩) hgF (.slice (some ⟨g, 0, none⟩) n cap)).far (p := ⟨w.heap.size + 1, 2, none⟩) hgF (.slice (some Q) n d)).alloc (.cells #[.int .i64 n, (.slice (some ⟨g, 0, none⟩) n cap), (.slice (some Q) n d)] 25)
  have Rf := row_of_take Gf (take_set HC4.out hk)
  obtain ⟨⟨_, _, q0, q1⟩, q2, q3, q4, q5, q6, q7⟩ := HM.out
  exact ⟨⟨g, 0, none⟩, Q, cap, d, rfl, ⟨⟨h16, hn, hlen, q1⟩, hc1, hc2, q4, q5, Rf, q7.up Uf⟩, Uf⟩

set_option maxHeartbeats 2000000 in
theorem rstore_at1 (n : Nat) (xs ys : List Int) (a v : Int) (k : Nat) (P Q : Addr) (c d : Nat) (w : World) (hm : Sits w ⟨n, xs, ys⟩ P Q c d) (ha : U64 a) (hl : Leads a 1 k) (hk : k < n) :
    Calls Try.prog 44 #[.agg #[.int .i64 n, .slice (some P) n c, .slice (some Q) n d], .int .u64 a, .int .u64 v] w (Gives1 w ⟨n, xs, ys.set k v⟩ (.int .i64 0)) := by
  have hw := Lib.hid (fun w => rwhere_yes a 1 k ha hl w)
  have ht := Lib.hid (fun w => rthere_yes1 n k a P Q c d w ha hl hk)
  have h16 := hm.1.1
  have hn := hm.1.2.1
  have hx := hm.1.2.2.2
  have hR := hm.2.2.2.2.2.2
  simp only at hx hR h16 hn
  have Hx := Lib.hid hx
  have HM := Lib.hid hm
  obtain ⟨i0, hi0, hz0, hz1, hz2⟩ := info_parts info_u64
  have Hi := Lib.hid hi0
  have Hz := Lib.hid hz0
  have Hz1 := Lib.hid hz1
  have Hz2 := Lib.hid hz2
  clear ha hl hm hx hi0 hz0 hz1 hz2
  go_enter Try.func44, Try.ntmps44
  go_wp2_with (fail)
  refine (ht.out _).mono ?_
  rintro e w1 ⟨rfl, h1⟩
  have D1 := ((Blk.new w 25 _).alloc _).up h1
  have F1 := (Blk.new _ 25 _).up h1
  simp at F1
  have U1 : Up w w1 := (((Up.refl w).alloc _).alloc _).trans h1
  clear h1
  go_wp2_with (fail)
  refine (hw.out _).mono ?_
  rintro e w2 ⟨rfl, rfl⟩
  have D1c := D1.cell
  have D1l := D1.lt
  go_wp2_with (with_reducible refine halt_at (o := ⟨some 31, _, _, _, _, _⟩) ?_)
  unfold Halt
  refine wpList_append_own _ rfl (.tmp 26) (.tmp 30) 22 rfl w1.heap.size 44 i0 (.int .u64 0) 1 8 Try.underlying22 Hi.out Hz.out Hz1.out Hz2.out rfl (by omega) (.slice (some ⟨w1.heap.size, 0, none⟩) 0 0) 0 [] rfl ?c1 Q n d (wds ys) rfl ?c2 ?c3 (one_wds _) ?c4 ?c5 ?c6 ?_
  case c1 => exact ⟨rfl, .inr ⟨w1.heap.size, 0, #[], rfl, Nat.le_refl _, heap_alloc_new _ _, Nat.le_refl _, Nat.zero_le _, rfl, rfl⟩⟩
  case c2 => rw [len_wds, Hx.out]; omega
  case c3 => exact (hR.up (U1.alloc _)).src
  case c4 => unfold maxLen; omega
  case c5 => omega
  case c6 => simp
  intro v' w3 hown hgr _
  rw [Nat.zero_add, List.nil_append] at hown
  obtain ⟨g, cap, cur, rfl, hbg, G3, hc1, hc2, hc3, hc4⟩ := own_blk hown (by omega)
  have D3 := (D1.alloc _).grown hgr (by simp [Value.ownBlock]; omega)
  have F3 := (F1.alloc _).grown hgr (by have := F1.lt; simp [Value.ownBlock]; omega)
  have U3 : Up w w3 := (U1.alloc _).grown hgr (by have := U1.size; intro q hq; simp [Value.ownBlock] at hq; omega)
  clear hown hgr D1c
  have HC4 := Lib.hid hc4
  have gc : w3.cell? ⟨g, k, none⟩ = some (.int .u64 (ys.getD k 0)) := by rw [← add_zero']; exact (row_of_take G3 hc4).at_ k (by rw [Hx.out]; exact hk)
  have gf := G3.frozen k
  have D3c := D3.cell
  have D3l := D3.lt
  have F3c := F3.cell
  have F3f := F3.frozen
  have F3l := F3.lt
  have G3l := G3.lt
  have hgD : ¬ g = w.heap.size := by omega
  have hgD' : ¬ w.heap.size = g := by omega
  have hgF : ¬ g = w.heap.size + 1 := by have := F1.lt; omega
  have hgF' : ¬ w.heap.size + 1 = g := by omega
  have hkc : k < cap := by omega
  have hwg : w.heap.size ≤ g := by omega
  clear hc4 D1 F1 hbg
  have hlen : (ys.set k v).length = n := by rw [List.length_set, Hx.out]
  go_wp2
  refine bodyPost_ret (v := .tuple #[.agg #[.int .i64 n, (.slice (some P) n c), (.slice (some ⟨g, 0, none⟩) n cap)], .int .i64 0]) (by simp [results, Try.results44, go_sem, F3c, F3l, hgF, hgF']) rfl ?_
  have Uf := ((U3.setCell (p := ⟨g, k, none⟩) hwg (.int .u64 v)).set3 (g := w.heap.size + 1) (by omega) (.int .i64 n) (.slice (some P) n c) (.slice (some ⟨g, 0, none⟩) n cap)).alloc (.cells #[.int .i64 n, (.slice (some P) n c), (.slice (some ⟨g, 0, none⟩) n cap)] 25)
  have Gf := ((((G3.set_ k (.int .u64 v)).far (p := ⟨w.heap.size + 1, 0, none⟩) hgF (.int .i64 n)).far (p := ⟨w.heap.size + 1, 1, none⟩) hgF (.slice (some P) n c)).far (p := ⟨w.heap.size + 1, 2, none⟩) hgF (.slice (some ⟨g, 0, none⟩) n cap)).alloc (.cells #[.int .i64 n, (.slice (some P) n c), (.slice (some ⟨g, 0, none⟩) n cap)] 25)
  have Rf := row_of_take Gf (take_set HC4.out hk)
  obtain ⟨⟨_, _, q0, q1⟩, q2, q3, q4, q5, q6, q7⟩ := HM.out
  exact ⟨P, ⟨g, 0, none⟩, c, cap, rfl, ⟨⟨h16, hn, q0, hlen⟩, q2, q3, hc1, hc2, q6.up Uf, Rf⟩, Uf⟩

set_option maxHeartbeats 2000000 in
theorem rstore_no (m : Me) (a v : Int) (P Q : Addr) (c d : Nat) (w : World) (hm : Sits w m P Q c d) (ha : U64 a) (hn : ¬ m.there a) :
    Calls Try.prog 44 #[.agg #[.int .i64 m.n, .slice (some P) m.n c, .slice (some Q) m.n d], .int .u64 a, .int .u64 v] w (Gives1 w m (.int .i64 2)) := by
  have ht := fun w => rthere_any m a P Q c d w ha
  rw [decide_eq_false hn] at ht
  have ht := Lib.hid ht
  have HM := Lib.hid hm
  clear ha hn hm
  go_enter Try.func44, Try.ntmps44
  go_wp2_with (fail)
  refine (ht.out _).mono ?_
  rintro e w1 ⟨rfl, h1⟩
  have D1 := ((Blk.new w 25 _).alloc _).up h1
  have F1 := (Blk.new _ 25 _).up h1
  simp at F1
  have U1 : Up w w1 := (((Up.refl w).alloc _).alloc _).trans h1
  clear h1
  have D1c := D1.cell
  have F1c := F1.cell
  have F1f := F1.frozen
  go_wp2
  refine bodyPost_ret (v := .tuple #[.agg #[.int .i64 m.n, .slice (some P) m.n c, .slice (some Q) m.n d], .int .i64 2]) (by simp [results, Try.results44, go_sem, F1c]) rfl ?_
  exact ⟨P, Q, c, d, rfl, (HM.out.up U1).far3 F1 _ _ _, U1.set3 (by omega) _ _ _⟩

theorem rstore_any (m : Me) (a v : Int) (P Q : Addr) (c d : Nat) (w : World) (hm : Sits w m P Q c d) (ha : U64 a) :
    Calls Try.prog 44 #[.agg #[.int .i64 m.n, .slice (some P) m.n c, .slice (some Q) m.n d], .int .u64 a, .int .u64 v] w (Gives1 w (m.st a v) (.int .i64 (m.lde a))) := by
  by_cases h : m.there a
  · rcases leads_or a ha with ⟨s, p, hl⟩ | hb
    · obtain ⟨e1, e2, e3⟩ := hl.is
      obtain ⟨k, rfl⟩ : ∃ k : Nat, p = k := ⟨p.toNat, by have := hl.2.1; omega⟩
      have hp : k < m.n := by have := h.2; omega
      rw [show m.st a v = m.put (whs a) ((m.sp (whs a)).set (whp a).toNat v) from if_pos h, show m.lde a = 0 from if_pos h, e1, e2, Int.toNat_natCast]
      rcases hl.1 with rfl | rfl
      · exact rstore_at0 m.n m.xs m.ys a v k P Q c d w hm ha hl hp
      · exact rstore_at1 m.n m.xs m.ys a v k P Q c d w hm ha hl hp
    · exact absurd h.1 (by rw [hb]; decide)
  · rw [show m.st a v = m from if_neg h, show m.lde a = 2 from if_neg h]
    exact rstore_no m a v P Q c d w hm ha h

theorem Me.sp_put (m : Me) {s : Int} (hs : s = 0 ∨ s = 1) (l : List Int) : (m.put s l).sp s = l := by rcases hs with rfl | rfl <;> rfl
theorem Me.put_put (m : Me) {s : Int} (hs : s = 0 ∨ s = 1) (l l' : List Int) : (m.put s l).put s l' = m.put s l' := by rcases hs with rfl | rfl <;> rfl
theorem Me.put_n (m : Me) (s : Int) (l : List Int) : (m.put s l).n = m.n := by unfold Me.put; split <;> rfl
end Go.Proofs.Ytgcpkgogjcgfbaa
