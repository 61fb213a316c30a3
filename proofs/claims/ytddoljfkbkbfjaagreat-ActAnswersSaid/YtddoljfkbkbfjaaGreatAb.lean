/- The document's arena: contracts. -/
import Derived.Test.YtddoljfkbkbfjaaGreatAa
import Derived.IntWalk
import Derived.OwnWalk
import Derived.LoopTactic
/-! Of stage 3 -/
namespace Go.Proofs.YtddoljfkbkbfjaaGreat
open Go.ChangeShapes Go.WideShapes Go.ChangeAt Go.RowKit
set_option linter.unusedVariables false
set_option linter.unusedSimpArgs false

theorem add_of_add (a : Addr) (i j : Nat) : (a.add i).add j = a.add (i + j) := by
  unfold Addr.add
  by_cases hi : i = 0 <;> by_cases hj : j = 0 <;> simp [hi, hj, Nat.add_assoc]
theorem Row.sub {w : World} {p : Addr} {xs : List Int} (h : Row w p xs) (i n : Nat) : Row w (p.add i) ((xs.drop i).take n) := by
  refine ⟨by rw [block_of_add]; exact h.1, fun j x hx => ?_⟩
  rw [add_of_add]
  rw [List.getElem?_take] at hx
  split at hx
  · rw [List.getElem?_drop] at hx
    exact h.2 _ x hx
  · cases hx
theorem new_row (W : World) (xs : List Int) (t : TypeId) (g : Nat) (hg : g = W.heap.size) : Row (W.alloc (.cells (wds xs).toArray t)).drew ⟨g, 0, none⟩ xs := by
  subst hg
  exact row_of_blk (heap_alloc_new W _)
theorem len_zers (n : Nat) : (zers n).length = n := by simp [zers]

theorem lay_len (m : Me) (s : Int) (ws : List Int) (l k : Nat) (kk : Int) (P Q R : Addr) (c d cw : Nat) (w : World) (hl : ws.length = l) (hkk : kk = k) (hm : Sits w m P Q c d) (hs : s = 0 ∨ s = 1) (hR : Row w R ws) (hk : k < m.n) (hw : k + l ≤ m.n) :
    Calls Tryz.prog 145 #[.agg #[.int .i64 m.n, .slice (some P) m.n c, .slice (some Q) m.n d], .agg #[.int .i64 s, .int .i64 kk], .slice (some R) l cw] w (Gives w (m.put s (splice (m.sp s) k ws))) := by
  subst hl hkk
  exact lay_any m s ws k P Q R c d cw w hm hs hR hk hw


end Go.Proofs.YtddoljfkbkbfjaaGreat
/-! Of stage 3 -/
namespace Go.Proofs.YtddoljfkbkbfjaaGreat
open Go.ChangeShapes Go.WideShapes Go.ChangeAt Go.RowKit
set_option linter.unusedVariables false
set_option linter.unusedSimpArgs false

/-- So many words are there, from both places on. -/
def Me.mvok (m : Me) (a b k : Int) : Prop := 0 ≤ k ∧ (whb a = true ∧ Runs m.n k (whp a)) ∧ (whb b = true ∧ Runs m.n k (whp b))
instance decMv (m : Me) (a b k : Int) : Decidable (m.mvok a b k) := by unfold Me.mvok; infer_instance
def Me.mv (m : Me) (a b k : Int) : Me := if m.mvok a b k then m.put (whs b) (splice (m.sp (whs b)) (whp b).toNat (((m.sp (whs a)).drop (whp a).toNat).take k.toNat)) else m
def Me.mve (m : Me) (a b k : Int) : Int := if k < 0 then 1 else if m.mvok a b k then 0 else 2

def Me.clr (m : Me) (s : Int) : Me := if s = 0 ∨ s = 1 then m.put s (zers m.n) else m
theorem splice_zers (l : List Int) (n : Nat) (h : l.length = n) : splice l 0 (zers n) = zers n := by
  simp [splice, len_zers, h]


end Go.Proofs.YtddoljfkbkbfjaaGreat
/-! Of stage 5 -/
namespace Go.Proofs.YtddoljfkbkbfjaaGreat
open Go.ChangeShapes Go.WideShapes Go.ChangeAt Go.RowKit
set_option linter.unusedVariables false
set_option linter.unusedSimpArgs false

set_option maxHeartbeats 1000000 in
theorem rthere_yes0 (n k : Nat) (a : Int) (P Q : Addr) (c d : Nat) (w : World) (ha : U64 a) (hl : Leads a 0 k) (hp : k < n) :
    Calls Tryz.prog 92 #[.agg #[.int .i64 n, .slice (some P) n c, .slice (some Q) n d], .int .u64 a] w fun e w' => e = .returned (.bool true) ∧ Up w w' := by
  have hw := Lib.hid (fun w => rwhere_yes a 0 k ha hl w)
  clear ha hl
  have hd : decide (k < n) = true := by simp; omega
  go_enter Tryz.func92, Tryz.ntmps92
  go_wp2_with (fail)
  refine (hw.out _).mono ?_
  rintro e w1 ⟨rfl, rfl⟩
  go_wp2
  go_ret
  exact ⟨rfl, (Up.refl _).alloc _⟩

set_option maxHeartbeats 1000000 in
theorem rthere_far0 (n k : Nat) (a : Int) (P Q : Addr) (c d : Nat) (w : World) (ha : U64 a) (hl : Leads a 0 k) (hp : n ≤ k) :
    Calls Tryz.prog 92 #[.agg #[.int .i64 n, .slice (some P) n c, .slice (some Q) n d], .int .u64 a] w fun e w' => e = .returned (.bool false) ∧ Up w w' := by
  have hw := Lib.hid (fun w => rwhere_yes a 0 k ha hl w)
  clear ha hl
  have hd : decide (k < n) = false := by simp; omega
  go_enter Tryz.func92, Tryz.ntmps92
  go_wp2_with (fail)
  refine (hw.out _).mono ?_
  rintro e w1 ⟨rfl, rfl⟩
  go_wp2
  go_ret
  exact ⟨rfl, (Up.refl _).alloc _⟩

set_option maxHeartbeats 1000000 in
theorem rthere_yes1 (n k : Nat) (a : Int) (P Q : Addr) (c d : Nat) (w : World) (ha : U64 a) (hl : Leads a 1 k) (hp : k < n) :
    Calls Tryz.prog 92 #[.agg #[.int .i64 n, .slice (some P) n c, .slice (some Q) n d], .int .u64 a] w fun e w' => e = .returned (.bool true) ∧ Up w w' := by
  have hw := Lib.hid (fun w => rwhere_yes a 1 k ha hl w)
  clear ha hl
  have hd : decide (k < n) = true := by simp; omega
  go_enter Tryz.func92, Tryz.ntmps92
  go_wp2_with (fail)
  refine (hw.out _).mono ?_
  rintro e w1 ⟨rfl, rfl⟩
  go_wp2
  go_ret
  exact ⟨rfl, (Up.refl _).alloc _⟩

set_option maxHeartbeats 1000000 in
theorem rthere_far1 (n k : Nat) (a : Int) (P Q : Addr) (c d : Nat) (w : World) (ha : U64 a) (hl : Leads a 1 k) (hp : n ≤ k) :
    Calls Tryz.prog 92 #[.agg #[.int .i64 n, .slice (some P) n c, .slice (some Q) n d], .int .u64 a] w fun e w' => e = .returned (.bool false) ∧ Up w w' := by
  have hw := Lib.hid (fun w => rwhere_yes a 1 k ha hl w)
  clear ha hl
  have hd : decide (k < n) = false := by simp; omega
  go_enter Tryz.func92, Tryz.ntmps92
  go_wp2_with (fail)
  refine (hw.out _).mono ?_
  rintro e w1 ⟨rfl, rfl⟩
  go_wp2
  go_ret
  exact ⟨rfl, (Up.refl _).alloc _⟩

set_option maxHeartbeats 1000000 in
theorem rthere_none (n : Nat) (a : Int) (P Q : Addr) (c d : Nat) (w : World) (ha : U64 a) (hl : whb a = false) :
    Calls Tryz.prog 92 #[.agg #[.int .i64 n, .slice (some P) n c, .slice (some Q) n d], .int .u64 a] w fun e w' => e = .returned (.bool false) ∧ Up w w' := by
  have hw := Lib.hid (fun w => rwhere_not a ha hl w)
  clear ha hl
  go_enter Tryz.func92, Tryz.ntmps92
  go_wp2_with (fail)
  refine (hw.out _).mono ?_
  rintro e w1 ⟨rfl, rfl⟩
  go_wp2
  go_ret
  exact ⟨rfl, (Up.refl _).alloc _⟩

/-- Is it there? -/
theorem rthere_any (m : Me) (a : Int) (P Q : Addr) (c d : Nat) (w : World) (ha : U64 a) :
    Calls Tryz.prog 92 #[.agg #[.int .i64 m.n, .slice (some P) m.n c, .slice (some Q) m.n d], .int .u64 a] w fun e w' => e = .returned (.bool (decide (m.there a))) ∧ Up w w' := by
  rcases leads_or a ha with ⟨s, p, hl⟩ | hb
  · obtain ⟨e1, e2, e3⟩ := hl.is
    obtain ⟨k, rfl⟩ : ∃ k : Nat, p = k := ⟨p.toNat, by have := hl.2.1; omega⟩
    by_cases h : k < m.n
    · rw [show decide (m.there a) = true from decide_eq_true ⟨e3, by omega⟩]
      rcases hl.1 with rfl | rfl
      · exact rthere_yes0 m.n k a P Q c d w ha hl h
      · exact rthere_yes1 m.n k a P Q c d w ha hl h
    · rw [show decide (m.there a) = false from decide_eq_false (fun q => by have := q.2; omega)]
      rcases hl.1 with rfl | rfl
      · exact rthere_far0 m.n k a P Q c d w ha hl (by omega)
      · exact rthere_far1 m.n k a P Q c d w ha hl (by omega)
  · rw [show decide (m.there a) = false from decide_eq_false (fun q => by have := q.1; rw [hb] at this; cases this)]
    exact rthere_none m.n a P Q c d w ha hb

set_option maxHeartbeats 1000000 in
theorem rload_at0 (n : Nat) (xs ys : List Int) (a : Int) (k : Nat) (P Q : Addr) (c d : Nat) (w : World) (hm : Sits w ⟨n, xs, ys⟩ P Q c d) (ha : U64 a) (hl : Leads a 0 k) (hp : k < n) :
    Calls Tryz.prog 57 #[.agg #[.int .i64 n, .slice (some P) n c, .slice (some Q) n d], .int .u64 a] w fun e w' => e = .returned (.tuple #[.int .u64 (xs.getD k 0), .int .i64 0]) ∧ Up w w' := by
  have hw := Lib.hid (fun w => rwhere_yes a 0 k ha hl w)
  have ht := Lib.hid (fun w => rthere_yes0 n k a P Q c d w ha hl hp)
  have hx := Lib.hid hm.1.2.2.1
  have hR := hm.2.2.2.2.2.1
  simp only at hx hR
  clear ha hl hm
  go_enter Tryz.func57, Tryz.ntmps57
  go_wp2_with (fail)
  refine (ht.out _).mono ?_
  rintro e w1 ⟨rfl, h1⟩
  have D1 := (Blk.new w 25 _).up h1
  have U1 : Up w w1 := ((Up.refl w).alloc _).trans h1
  clear h1
  have g1 := (hR.up U1).at_ k (by rw [hx.out]; exact hp)
  have D1c := D1.cell
  clear hR
  go_wp2_with (fail)
  refine (hw.out _).mono ?_
  rintro e w2 ⟨rfl, rfl⟩
  go_wp2
  go_ret2
  exact ⟨rfl, U1⟩

set_option maxHeartbeats 1000000 in
theorem rload_at1 (n : Nat) (xs ys : List Int) (a : Int) (k : Nat) (P Q : Addr) (c d : Nat) (w : World) (hm : Sits w ⟨n, xs, ys⟩ P Q c d) (ha : U64 a) (hl : Leads a 1 k) (hp : k < n) :
    Calls Tryz.prog 57 #[.agg #[.int .i64 n, .slice (some P) n c, .slice (some Q) n d], .int .u64 a] w fun e w' => e = .returned (.tuple #[.int .u64 (ys.getD k 0), .int .i64 0]) ∧ Up w w' := by
  have hw := Lib.hid (fun w => rwhere_yes a 1 k ha hl w)
  have ht := Lib.hid (fun w => rthere_yes1 n k a P Q c d w ha hl hp)
  have hx := Lib.hid hm.1.2.2.2
  have hR := hm.2.2.2.2.2.2
  simp only at hx hR
  clear ha hl hm
  go_enter Tryz.func57, Tryz.ntmps57
  go_wp2_with (fail)
  refine (ht.out _).mono ?_
  rintro e w1 ⟨rfl, h1⟩
  have D1 := (Blk.new w 25 _).up h1
  have U1 : Up w w1 := ((Up.refl w).alloc _).trans h1
  clear h1
  have g1 := (hR.up U1).at_ k (by rw [hx.out]; exact hp)
  have D1c := D1.cell
  clear hR
  go_wp2_with (fail)
  refine (hw.out _).mono ?_
  rintro e w2 ⟨rfl, rfl⟩
  go_wp2
  go_ret2
  exact ⟨rfl, U1⟩

set_option maxHeartbeats 1000000 in
theorem rload_no (m : Me) (a : Int) (P Q : Addr) (c d : Nat) (w : World) (ha : U64 a) (h : ¬ m.there a) :
    Calls Tryz.prog 57 #[.agg #[.int .i64 m.n, .slice (some P) m.n c, .slice (some Q) m.n d], .int .u64 a] w fun e w' => e = .returned (.tuple #[.int .u64 0, .int .i64 2]) ∧ Up w w' := by
  have ht := fun w => rthere_any m a P Q c d w ha
  rw [decide_eq_false h] at ht
  have ht := Lib.hid ht
  clear ha h
  go_enter Tryz.func57, Tryz.ntmps57
  go_wp2_with (fail)
  refine (ht.out _).mono ?_
  rintro e w1 ⟨rfl, h1⟩
  go_wp2
  go_ret2
  exact ⟨rfl, ((Up.refl w).alloc _).trans h1⟩

theorem rload_any (m : Me) (a : Int) (P Q : Addr) (c d : Nat) (w : World) (hm : Sits w m P Q c d) (ha : U64 a) :
    Calls Tryz.prog 57 #[.agg #[.int .i64 m.n, .slice (some P) m.n c, .slice (some Q) m.n d], .int .u64 a] w fun e w' => e = .returned (.tuple #[.int .u64 (m.ld a), .int .i64 (m.lde a)]) ∧ Up w w' := by
  by_cases h : m.there a
  · rw [show m.ld a = (m.sp (whs a)).getD (whp a).toNat 0 from if_pos h, show m.lde a = 0 from if_pos h]
    rcases leads_or a ha with ⟨s, p, hl⟩ | hb
    · obtain ⟨e1, e2, e3⟩ := hl.is
      obtain ⟨k, rfl⟩ : ∃ k : Nat, p = k := ⟨p.toNat, by have := hl.2.1; omega⟩
      have hp : k < m.n := by have := h.2; omega
      rw [e1, e2, Int.toNat_natCast]
      rcases hl.1 with rfl | rfl
      · exact rload_at0 m.n m.xs m.ys a k P Q c d w hm ha hl hp
      · exact rload_at1 m.n m.xs m.ys a k P Q c d w hm ha hl hp
    · exact absurd h.1 (by rw [hb]; decide)
  · rw [show m.ld a = 0 from if_neg h, show m.lde a = 2 from if_neg h]
    exact rload_no m a P Q c d w ha h

end Go.Proofs.YtddoljfkbkbfjaaGreat
/-! Of stage 5 -/
namespace Go.Proofs.YtddoljfkbkbfjaaGreat
open Go.ChangeShapes Go.WideShapes Go.ChangeAt Go.RowKit
set_option linter.unusedVariables false
set_option linter.unusedSimpArgs false

/-- A row that a call has made by append: its block, its words. -/
theorem own_blk {w : World} {base : Nat} {e : TypeId} {v : Value} {n : Nat} {xs : List Int} (h : w.ownsRow base e 1 v n (wds xs)) (hn : 0 < n) :
    ∃ g cap cur, v = .slice (some ⟨g, 0, none⟩) n cap ∧ base ≤ g ∧ Blk w g e cur ∧ n ≤ cap ∧ cap ≤ maxLen ∧ n ≤ cur.size ∧ cur.toList.take n = wds xs := by
  rcases h.2 with ⟨_, h0⟩ | ⟨g, cap, cur, hv, hb, hg, hc, hm, hs, ht⟩
  · omega
  · exact ⟨g, cap, cur, hv, hb, hg, hc, hm, by omega, by simpa using ht⟩
theorem row_of_take {w : World} {g : Nat} {t : TypeId} {cur : Array Value} {xs : List Int} {n : Nat} (h : Blk w g t cur) (ht : cur.toList.take n = wds xs) : Row w ⟨g, 0, none⟩ xs := by
  refine ⟨h.lt, fun j x hx => ?_⟩
  rw [add_zero', h.cell j]
  have e : (cur.toList.take n)[j]? = some (wd x) := by rw [ht]; simp [wds, hx]
  rw [List.getElem?_take] at e
  split at e
  · simpa [wd] using e
  · cases e
theorem take_set {cur : Array Value} {xs : List Int} {n k : Nat} {v : Int} (ht : cur.toList.take n = wds xs) (hk : k < n) : (cur.setIfInBounds k (.int .u64 v)).toList.take n = wds (xs.set k v) := by
  rw [Array.toList_setIfInBounds, List.take_set, ht]
  simp [wds, List.map_set, wd]

theorem Me.sp_put (m : Me) {s : Int} (hs : s = 0 ∨ s = 1) (l : List Int) : (m.put s l).sp s = l := by rcases hs with rfl | rfl <;> rfl
theorem Me.put_put (m : Me) {s : Int} (hs : s = 0 ∨ s = 1) (l l' : List Int) : (m.put s l).put s l' = m.put s l' := by rcases hs with rfl | rfl <;> rfl
theorem Me.put_n (m : Me) (s : Int) (l : List Int) : (m.put s l).n = m.n := by unfold Me.put; split <;> rfl

end Go.Proofs.YtddoljfkbkbfjaaGreat
/-! Of stage 3 -/
namespace Go.Proofs.YtddoljfkbkbfjaaGreat
open Go.ChangeShapes Go.WideShapes Go.ChangeAt Go.RowKit
set_option linter.unusedVariables false
set_option linter.unusedSimpArgs false

theorem new_row' (W : World) (xs : List Int) (t : TypeId) (g : Nat) (hg : g = W.heap.size) : Row (W.alloc (.cells (wds xs).toArray t)) ⟨g, 0, none⟩ xs := by
  subst hg
  exact row_of_blk (heap_alloc_new W _)


end Go.Proofs.YtddoljfkbkbfjaaGreat
/-! Of stage 3 -/
namespace Go.Proofs.YtddoljfkbkbfjaaGreat
open Go.ChangeShapes Go.WideShapes Go.ChangeAt Go.RowKit
set_option linter.unusedVariables false
set_option linter.unusedSimpArgs false

theorem Me.put_ok {m : Me} (h : m.ok) (s : Int) (l : List Int) (hl : l.length = m.n) : (m.put s l).ok := by
  unfold Me.put
  split
  · exact ⟨h.1, h.2.1, h.2.2.1, hl⟩
  · exact ⟨h.1, h.2.1, hl, h.2.2.2⟩
theorem Me.put_sp3 (m : Me) {s : Int} (hs : s = 0 ∨ s = 1) : m.put s (m.sp s) = m := by rcases hs with rfl | rfl <;> rfl

theorem getElem?_splice {α : Type} (L W : List α) (j q : Nat) (hj : j + W.length ≤ L.length) : (splice L j W)[q]? = if q < j then L[q]? else if q < j + W.length then W[q - j]? else L[q]? := by
  have hm : (L.take j).length = j := by simp; omega
  unfold splice
  by_cases q0 : q < j
  · rw [if_pos q0, List.getElem?_append_left (by omega), List.getElem?_take, if_pos q0]
  · rw [if_neg q0, List.getElem?_append_right (by omega), hm]
    by_cases q1 : q < j + W.length
    · rw [if_pos q1, List.getElem?_append_left (by omega)]
    · rw [if_neg q1, List.getElem?_append_right (by omega), List.getElem?_drop]
      congr 1
      omega
theorem splice_step (L W : List Int) (j x : Nat) (hx : x < W.length) (hj : j + W.length ≤ L.length) : (splice L j (W.take x)).set (j + x) (W.getD x 0) = splice L j (W.take (x + 1)) := by
  apply List.ext_getElem?
  intro q
  have h1 : (W.take x).length = x := by simp; omega
  have h2 : (W.take (x + 1)).length = x + 1 := by simp; omega
  have hl : (splice L j (W.take x)).length = L.length := length_splice _ _ _ (by omega)
  rw [List.getElem?_set, getElem?_splice _ _ _ _ (by omega), getElem?_splice _ _ _ _ (by omega), h1, h2]
  by_cases e : j + x = q
  · subst e
    rw [if_pos rfl, if_pos (by omega), if_neg (by omega), if_pos (by omega), Nat.add_sub_cancel_left, List.getElem?_take, if_pos (by omega), List.getElem?_eq_getElem hx]
    simp [List.getD, List.getElem?_eq_getElem hx]
  · rw [if_neg e]
    by_cases q0 : q < j
    · rw [if_pos q0, if_pos q0]
    · rw [if_neg q0, if_neg q0]
      by_cases q1 : q < j + x
      · rw [if_pos q1, if_pos (by omega), List.getElem?_take, List.getElem?_take, if_pos (by omega), if_pos (by omega)]
      · rw [if_neg q1, if_neg (by omega)]

/-- Memory with the first x words moved. -/
def Me.mvx (m : Me) (t : Int) (j : Nat) (W : List Int) (x : Nat) : Me := m.put t (splice (m.sp t) j (W.take x))
theorem Me.mvx_0 (m : Me) {t : Int} (ht : t = 0 ∨ t = 1) (j : Nat) (W : List Int) : m.mvx t j W 0 = m := by
  unfold Me.mvx
  have : splice (m.sp t) j (W.take 0) = m.sp t := by simp [splice]
  rw [this, Me.put_sp3 m ht]
theorem Me.mvx_n (m : Me) (t : Int) (j : Nat) (W : List Int) (x : Nat) : (m.mvx t j W x).n = m.n := Me.put_n _ _ _
theorem leads_add {a s : Int} {i x n : Nat} (h : Leads a s i) (hn : n ≤ 4096) (hx : i + x < n) : Leads (a + x) s (i + x : Nat) := ⟨h.1, by omega, by omega, by have := h.2.2.2; omega⟩
theorem Me.mvx_succ {m : Me} (hm : m.ok) {b t : Int} {j : Nat} (hl : Leads b t j) (W : List Int) (x : Nat) (hx : x < W.length) (hj : j + W.length ≤ m.n) :
    (m.mvx t j W x).st (b + x) (W.getD x 0) = m.mvx t j W (x + 1) := by
  obtain ⟨e1, e2, e3⟩ := (leads_add hl hm.2.1 (x := x) (by omega)).is
  have ht : (m.mvx t j W x).there (b + x) := ⟨e3, by rw [e2, Me.mvx_n]; omega⟩
  rw [show (m.mvx t j W x).st (b + x) (W.getD x 0) = _ from if_pos ht, e1, e2, Int.toNat_natCast]
  unfold Me.mvx
  rw [Me.sp_put m hl.1, Me.put_put m hl.1, splice_step _ _ _ _ hx (by rw [Me.len_sp hm]; exact hj)]
theorem ld_add {m : Me} (hm : m.ok) {a s : Int} {i : Nat} (hl : Leads a s i) (x : Nat) (hx : i + x < m.n) : m.ld (a + x) = (m.sp s).getD (i + x) 0 ∧ m.lde (a + x) = 0 := by
  obtain ⟨e1, e2, e3⟩ := (leads_add hl hm.2.1 (x := x) hx).is
  have ht : m.there (a + x) := ⟨e3, by rw [e2]; omega⟩
  refine ⟨?_, if_pos ht⟩
  rw [show m.ld (a + x) = _ from if_pos ht, e1, e2, Int.toNat_natCast]

theorem Blk.set3 {w : World} {g : Nat} {t : TypeId} {a0 a1 a2 : Value} (h : Blk w g t #[a0, a1, a2]) (u0 u1 u2 : Value) :
    Blk (((w.setCell ⟨g, 0, none⟩ u0).setCell ⟨g, 1, none⟩ u1).setCell ⟨g, 2, none⟩ u2) g t #[u0, u1, u2] := by
  simpa using ((h.set_ 0 u0).set_ 1 u1).set_ 2 u2
theorem Blk.far3 {w : World} {g g' : Nat} {t : TypeId} {cs : Array Value} (h : Blk w g t cs) (hg : g ≠ g') (u0 u1 u2 : Value) :
    Blk (((w.setCell ⟨g', 0, none⟩ u0).setCell ⟨g', 1, none⟩ u1).setCell ⟨g', 2, none⟩ u2) g t cs :=
  ((h.far (p := ⟨g', 0, none⟩) hg u0).far (p := ⟨g', 1, none⟩) hg u1).far (p := ⟨g', 2, none⟩) hg u2

/-- What holds at each round's head. -/
def MvRel (w : World) (g : Nat) (m : Me) (M : Nat → Me) (l : Nat) (P Q : Addr) (c d : Nat) (i : Value) (wr : World) : Prop :=
  ∃ x : Nat, x ≤ l ∧ i = .int .i64 x ∧ Blk wr w.heap.size 25 #[.int .i64 m.n, .slice (some P) m.n c, .slice (some Q) m.n d] ∧ Blk wr (w.heap.size + 1) 25 #[.int .i64 0, .slice none 0 0, .slice none 0 0] ∧ Up w wr ∧
    ∃ P' Q' c' d', Blk wr g 25 #[.int .i64 m.n, .slice (some P') m.n c', .slice (some Q') m.n d'] ∧ Sits wr (M x) P' Q' c' d'


end Go.Proofs.YtddoljfkbkbfjaaGreat
/-! Of stage 5 -/
namespace Go.Proofs.YtddoljfkbkbfjaaGreat
open Go.ChangeShapes Go.WideShapes Go.ChangeAt Go.RowKit
set_option linter.unusedVariables false
set_option linter.unusedSimpArgs false

/-- A slice reads as a list of words, nil let in. -/
def Rd (w : World) (A : Option Addr) (n : Nat) (xs : List Int) : Prop := xs.length = n ∧ (0 < n → ∃ p, A = some p ∧ Row w p xs)
theorem Rd.up {w w' : World} {A : Option Addr} {n : Nat} {xs : List Int} (h : Rd w A n xs) (k : Up w w') : Rd w' A n xs :=
  ⟨h.1, fun hn => by obtain ⟨p, e, hr⟩ := h.2 hn; exact ⟨p, e, hr.up k⟩⟩
theorem Rd.of_row {w : World} {p : Addr} {xs : List Int} {n : Nat} (h : Row w p xs) (hn : xs.length = n) : Rd w (some p) n xs := ⟨hn, fun _ => ⟨p, rfl, h⟩⟩
theorem Rd.at_ {w : World} {A : Option Addr} {n x : Nat} {xs : List Int} (h : Rd w A n xs) (hx : x < n) : ∃ p, A = some p ∧ w.cell? (p.add x) = some (.int .u64 (xs.getD x 0)) := by
  obtain ⟨p, e, hr⟩ := h.2 (by omega)
  exact ⟨p, e, hr.at_ x (by rw [h.1]; exact hx)⟩
theorem take_more {xs ys : List Int} {x : Nat} (h : xs.take x = ys.take x) (h1 : x < xs.length) (h2 : x < ys.length) (e : xs.getD x 0 = ys.getD x 0) : xs.take (x + 1) = ys.take (x + 1) := by
  rw [List.take_succ_eq_append_getElem h1, List.take_succ_eq_append_getElem h2, h]
  simp [List.getD, List.getElem?_eq_getElem h1, List.getElem?_eq_getElem h2] at e
  rw [e]
theorem ne_of_get {xs ys : List Int} {x : Nat} (e : xs.getD x 0 ≠ ys.getD x 0) : xs ≠ ys := fun h => e (by rw [h])

def EqRel (w : World) (xs ys : List Int) (n : Nat) (i : Value) (wr : World) : Prop := ∃ x : Nat, x ≤ n ∧ i = .int .i64 x ∧ xs.take x = ys.take x ∧ Up w wr

set_option maxHeartbeats 2000000 in
theorem rwords_len (A B : Option Addr) (n k c d : Nat) (w : World) (hnk : n ≠ k) :
    Calls Tryz.prog 51 #[.slice A n c, .slice B k d] w fun e w' => e = .returned (.bool false) ∧ Up w w' := by
  have hb : ((n : Int) != (k : Int)) = true := bne_iff_ne.mpr (by omega)
  clear hnk
  go_enter Tryz.func51, Tryz.ntmps51
  go_wp2
  go_ret
  exact ⟨rfl, Up.refl _⟩

set_option maxHeartbeats 2000000 in
theorem rwords_same (A B : Option Addr) (n c d : Nat) (xs ys : List Int) (w : World) (hx : Rd w A n xs) (hy : Rd w B n ys) (hn : n ≤ maxLen) :
    Calls Tryz.prog 51 #[.slice A n c, .slice B n d] w fun e w' => e = .returned (.bool (decide (xs = ys))) ∧ Up w w' := by
  have HX := Lib.hid hx
  have HY := Lib.hid hy
  have Lx := Lib.hid hx.1
  have Ly := Lib.hid hy.1
  unfold maxLen at hn
  generalize hB : decide (xs = ys) = bo
  have HB := Lib.hid hB
  clear hx hy hB
  go_enter Tryz.func51, Tryz.ntmps51
  go_wp2
  go_loopw [5] (fun i wr => EqRel w xs ys n i wr) (fun i _ => n - (intOf i).toNat)
  case atStart => exact ⟨0, Nat.zero_le _, rfl, rfl, Up.refl _⟩
  case round =>
    obtain ⟨x, hx, rfl, ht, U⟩ := hrel
    have HT := Lib.hid ht
    clear ht
    by_cases hlt : x < n
    · obtain ⟨p, rfl, hcp⟩ := (HX.out.up U).at_ hlt
      obtain ⟨q, rfl, hcq⟩ := (HY.out.up U).at_ hlt
      by_cases e : xs.getD x 0 = ys.getD x 0
      · have E := Lib.hid e
        rw [← e] at hcq
        generalize xs.getD x 0 = u at hcp hcq
        clear e
        go_wp2
        go_region
        all_goals
          go_wp2
          refine ⟨⟨x + 1, by omega, by go_num, take_more HT.out (by rw [Lx.out]; exact hlt) (by rw [Ly.out]; exact hlt) E.out, U.drew⟩, by simp [intOf]; omega⟩
      · have E := Lib.hid e
        have hne : (xs.getD x 0 != ys.getD x 0) = true := bne_iff_ne.mpr e
        generalize xs.getD x 0 = u at hcp hne
        generalize ys.getD x 0 = v at hcq hne
        clear e
        go_wp2
        go_region
        all_goals
          go_wp2
          go_ret
          exact ⟨show Ending.returned (.bool false) = .returned (.bool bo) from by rw [← HB.out, decide_eq_false (ne_of_get E.out)], U.drew⟩
    · obtain rfl : n = x := by omega
      go_wp2
      go_ret
      have h := HT.out
      rw [List.take_of_length_le (by rw [Lx.out]; exact Nat.le_refl _), List.take_of_length_le (by rw [Ly.out]; exact Nat.le_refl _)] at h
      exact ⟨show Ending.returned (.bool true) = .returned (.bool bo) from by rw [← HB.out, decide_eq_true h], U⟩

theorem rwords_any (A B : Option Addr) (n k c d : Nat) (xs ys : List Int) (w : World) (hx : Rd w A n xs) (hy : Rd w B k ys) (hn : n ≤ maxLen) :
    Calls Tryz.prog 51 #[.slice A n c, .slice B k d] w fun e w' => e = .returned (.bool (decide (xs = ys))) ∧ Up w w' := by
  by_cases h : n = k
  · subst h
    exact rwords_same A B n c d xs ys w hx hy hn
  · rw [decide_eq_false (fun e => h (by rw [← hx.1, ← hy.1, e]))]
    exact rwords_len A B n k c d w h


end Go.Proofs.YtddoljfkbkbfjaaGreat
/-! Of stage 5 -/
namespace Go.Proofs.YtddoljfkbkbfjaaGreat
open Go.ChangeShapes Go.WideShapes Go.ChangeAt Go.RowKit
set_option linter.unusedVariables false
set_option linter.unusedSimpArgs false

set_option maxHeartbeats 2000000 in
theorem rsame_core (N K : Int) (A0 A1 B0 B1 : Option Addr) (n0 n1 k0 k1 c0 c1 d0 d1 : Nat) (w : World) (x y : Bool)
    (h0 : ∀ W, Up w W → Calls Tryz.prog 51 #[.slice A0 n0 c0, .slice B0 k0 d0] W fun e w' => e = .returned (.bool x) ∧ Up W w')
    (h1 : ∀ W, Up w W → Calls Tryz.prog 51 #[.slice A1 n1 c1, .slice B1 k1 d1] W fun e w' => e = .returned (.bool y) ∧ Up W w') :
    Calls Tryz.prog 21 #[.agg #[.int .i64 N, .slice A0 n0 c0, .slice A1 n1 c1], .agg #[.int .i64 K, .slice B0 k0 d0, .slice B1 k1 d1]] w fun e w' => e = .returned (.bool (x && y && decide (N = K))) ∧ Up w w' := by
  have H0 := Lib.hid h0
  have H1 := Lib.hid h1
  clear h0 h1
  by_cases hN : N = K
  · subst hN
    rw [decide_eq_true rfl]
    cases x <;> cases y
    all_goals
      go_enter Tryz.func21, Tryz.ntmps21
      go_wp2_with (fail)
      refine (H0.out _ (((Up.refl w).alloc _).alloc _)).mono ?_
      rintro e w1 ⟨rfl, h1⟩
      have D1 := ((Blk.new w 25 _).alloc _).up h1
      have E1 := (Blk.new _ 25 _).up h1
      simp at E1
      have U1 : Up w w1 := (((Up.refl w).alloc _).alloc _).trans h1
      clear h1
      have D1c := D1.cell
      have E1c := E1.cell
      go_wp2_with (fail)
      refine (H1.out _ U1).mono ?_
      rintro e w2 ⟨rfl, h2⟩
      have D2c := (D1.up h2).cell
      have E2c := (E1.up h2).cell
      have U2 := U1.trans h2
      clear D1 E1 D1c E1c h2 U1
      go_wp2
      go_ret
      exact ⟨rfl, U2⟩
  · rw [decide_eq_false hN, Bool.and_false]
    have hb : (N == K) = false := beq_eq_false_iff_ne.mpr hN
    clear hN
    cases x <;> cases y
    all_goals
      go_enter Tryz.func21, Tryz.ntmps21
      go_wp2_with (fail)
      refine (H0.out _ (((Up.refl w).alloc _).alloc _)).mono ?_
      rintro e w1 ⟨rfl, h1⟩
      have D1 := ((Blk.new w 25 _).alloc _).up h1
      have E1 := (Blk.new _ 25 _).up h1
      simp at E1
      have U1 : Up w w1 := (((Up.refl w).alloc _).alloc _).trans h1
      clear h1
      have D1c := D1.cell
      have E1c := E1.cell
      go_wp2_with (fail)
      refine (H1.out _ U1).mono ?_
      rintro e w2 ⟨rfl, h2⟩
      have D2c := (D1.up h2).cell
      have E2c := (E1.up h2).cell
      have U2 := U1.trans h2
      clear D1 E1 D1c E1c h2 U1
      go_wp2
      go_ret
      exact ⟨rfl, U2⟩

/-- Memory, right or not. -/
structure Ma where
  N : Int
  xs : List Int
  ys : List Int
def Ma.same (a b : Ma) : Bool := decide (a.xs = b.xs) && decide (a.ys = b.ys) && decide (a.N = b.N)
/-- Memory, right or not, lies there. -/
def Lies (w : World) (m : Ma) (A0 A1 : Option Addr) (n0 n1 c0 c1 : Nat) : Prop := Rd w A0 n0 m.xs ∧ Rd w A1 n1 m.ys ∧ n0 ≤ maxLen ∧ n1 ≤ maxLen
theorem Lies.up {w w' : World} {m : Ma} {A0 A1 : Option Addr} {n0 n1 c0 c1 : Nat} (h : Lies w m A0 A1 n0 n1 c0 c1) (k : Up w w') : Lies w' m A0 A1 n0 n1 c0 c1 := ⟨h.1.up k, h.2.1.up k, h.2.2⟩
def Me.ma (m : Me) : Ma := ⟨m.n, m.xs, m.ys⟩
theorem Sits.lies {w : World} {m : Me} {p q : Addr} {c d : Nat} (h : Sits w m p q c d) : Lies w m.ma (some p) (some q) m.n m.n c d := by
  obtain ⟨⟨_, h1, h2, h3⟩, _, _, _, _, h4, h5⟩ := h
  exact ⟨Rd.of_row h4 h2, Rd.of_row h5 h3, by unfold maxLen; omega, by unfold maxLen; omega⟩

theorem rsame_any (a b : Ma) (A0 A1 B0 B1 : Option Addr) (n0 n1 k0 k1 c0 c1 d0 d1 : Nat) (w : World) (ha : Lies w a A0 A1 n0 n1 c0 c1) (hb : Lies w b B0 B1 k0 k1 d0 d1) :
    Calls Tryz.prog 21 #[.agg #[.int .i64 a.N, .slice A0 n0 c0, .slice A1 n1 c1], .agg #[.int .i64 b.N, .slice B0 k0 d0, .slice B1 k1 d1]] w fun e w' => e = .returned (.bool (a.same b)) ∧ Up w w' :=
  rsame_core a.N b.N A0 A1 B0 B1 n0 n1 k0 k1 c0 c1 d0 d1 w _ _
    (fun W hU => rwords_any A0 B0 n0 k0 c0 d0 a.xs b.xs W (ha.1.up hU) (hb.1.up hU) ha.2.2.1)
    (fun W hU => rwords_any A1 B1 n1 k1 c1 d1 a.ys b.ys W (ha.2.1.up hU) (hb.2.1.up hU) ha.2.2.2)
/-- The same memory is the same. -/
theorem Ma.same_self (a : Ma) : a.same a = true := by simp [Ma.same]

end Go.Proofs.YtddoljfkbkbfjaaGreat
