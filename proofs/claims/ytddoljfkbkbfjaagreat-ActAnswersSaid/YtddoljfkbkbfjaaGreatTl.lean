/- Making an object, whichever way it goes (buf.Make); a thread's room (act.room): contracts. -/
import Derived.Test.YtddoljfkbkbfjaaGreatTi
namespace Go.Proofs.YtddoljfkbkbfjaaGreat.T
open G
open Go.Joins Go.ChangeShapes Go.WideShapes Go.ChangeAt Go.RowKit Go.Deep Go.Shelf Go.Maps
set_option linter.unusedVariables false
set_option linter.unusedSimpArgs false

/-- What Make comes to: memory, where the space goes on, the piece, the address, why not. -/
structure Mk where
  m : Me
  a : Int
  x : Int
  y : Int
  p : Int
  e : Int
def mkr (m : Me) (s a l x y t k mp size : Int) : Mk :=
  if wdn t k ≤ y - x then ⟨m.putm (adr s x) t k mp, a, x + wdn t k, y, adr s x, 0⟩
  else if size < 2 * wdn t k then (if wdn t k ≤ l - a then ⟨m.putm (adr s a) t k mp, a + wdn t k, x, y, adr s a, 0⟩ else ⟨m, a, x, y, 0, 4⟩)
  else if wdn t k ≤ l - a then ⟨(m.rtm s x y).putm (adr s a) t k mp, msa s a l size, a + wdn t k, msa s a l size, adr s a, 0⟩
  else ⟨m.rtm s x y, a, 0, 0, 0, 4⟩
theorem rtm_0 (m : Me) (s : Int) : m.rtm s 0 0 = m := if_neg (by omega)
theorem make_any (m : Me) (P Q : Addr) (c d : Nat) (s a l x y t k mp size : Int) (w : World) (hm : Sits w m P Q c d) (hmp : 0 ≤ mp) (hh : rte t k mp = 0) (ht : t ≠ 255) (hs : rgt s a l) (hl : l = m.n) (hb : (x = 0 ∧ y = 0) ∨ (0 ≤ x ∧ x ≤ y ∧ y ≤ a)) :
    Calls Tryz.prog 103 #[rov m.n (.slice (some P) m.n c) (.slice (some Q) m.n d) s a l x y, hdv t k mp, .int .i64 size] w (GivesR2 w (mkr m s a l x y t k mp size).m s (mkr m s a l x y t k mp size).a l (mkr m s a l x y t k mp size).x (mkr m s a l x y t k mp size).y (mkr m s a l x y t k mp size).p (mkr m s a l x y t k mp size).e) := by
  have hw := wdn_small hmp hh
  have hs' := hs
  obtain ⟨s1, s2, s3, s4⟩ := hs
  have hx0 : 0 ≤ x := by omega
  have hxy : x ≤ y := by omega
  have hyn : y ≤ m.n := by omega
  unfold mkr
  by_cases h1 : wdn t k ≤ y - x
  · rw [if_pos h1]
    exact make_a m P Q c d s a l x y t k mp size w hm hmp hh ht s1 hx0 hyn h1
  · rw [if_neg h1]
    by_cases h2 : size < 2 * wdn t k
    · rw [if_pos h2]
      by_cases h3 : wdn t k ≤ l - a
      · rw [if_pos h3]
        exact make_b m P Q c d s a l x y t k mp size w hm hmp hh ht hs' hx0 hyn (by omega) hxy (by omega) h2 h3
      · rw [if_neg h3]
        exact make_bf m P Q c d s a l x y t k mp size w hm hmp hh ht hs' hx0 hyn hxy (by omega) h2 (by omega)
    · rw [if_neg h2]
      by_cases h0 : x = 0 ∧ y = 0
      · obtain ⟨rfl, rfl⟩ := h0
        rw [rtm_0]
        by_cases h3 : wdn t k ≤ l - a
        · rw [if_pos h3]
          exact make_ce m P Q c d s a l t k mp size w hm hmp hh ht hs' hl (by omega) h3
        · rw [if_neg h3]
          exact make_cef m P Q c d s a l t k mp size w hm hmp hh ht hs' hl (by omega) (by omega)
      · by_cases h3 : wdn t k ≤ l - a
        · rw [if_pos h3]
          exact make_c m P Q c d s a l x y t k mp size w hm hmp hh ht hs' hl hx0 hxy hyn (by omega) (by omega) (by omega) h3
        · rw [if_neg h3]
          exact make_cf m P Q c d s a l x y t k mp size w hm hmp hh ht hs' hl hx0 hxy hyn (by omega) (by omega) (by omega) (by omega)
set_option maxRecDepth 100000 in
set_option maxHeartbeats 1000000 in
theorem room_any (n s a l b0 b1 b2 b3 b4 p0 p1 p2 p3 x y : Int) (A B : Value) (vt vo u0 u3 u4 u5 u7 : Value) (b : Bool) (At Bt : Option Addr) (w : World) (hA : ∃ P k c, A = .slice P k c) (hB : ∃ P k c, B = .slice P k c) (hvt : ∃ P k c, vt = .slice P k c) (hvo : ∃ P k c, vo = .slice P k c) (h0 : ∃ P k c, u0 = .slice P k c) (h3 : ∃ P k c, u3 = .slice P k c) (h4 : ∃ P k c, u4 = .slice P k c) (h5 : ∃ P k c, u5 = .slice P k c) (h7 : ∃ P k c, u7 = .slice P k c) :
    Calls Tryz.prog 104 #[.agg #[.int .i64 n, A, B, .int .i64 s, .int .i64 a, .int .i64 l, .int .i64 b0, .int .i64 b1, .int .i64 b2, .int .i64 b3, .int .i64 b4, vt, .int .i64 p0, .int .i64 p1, .int .i64 p2, vo, .int .i64 p3], .agg #[u0, .int .i64 x, .int .i64 y, u3, u4, u5, .bool b, u7]] w fun e w' => e = .returned (rov n A B s a l x y) ∧ Up w w' := by
  obtain ⟨P1, k1, c1, rfl⟩ := hA
  obtain ⟨P2, k2, c2, rfl⟩ := hB
  obtain ⟨P3, k3, c3, rfl⟩ := hvt
  obtain ⟨P4, k4, c4, rfl⟩ := hvo
  obtain ⟨P5, k5, c5, rfl⟩ := h0
  obtain ⟨P6, k6, c6, rfl⟩ := h3
  obtain ⟨P7, k7, c7, rfl⟩ := h4
  obtain ⟨P8, k8, c8, rfl⟩ := h5
  obtain ⟨P9, k9, c9, rfl⟩ := h7
  go_enter Tryz.func104, Tryz.ntmps104
  go_wp2_with (fail)
  first
    | (refine bodyPost_ret (ret_room rfl _ _ _ _ _ _ _ _ _ _ _ rfl (Blk.new' _ (by simp) _ _)) rfl ?_; exact ⟨rfl, (((Up.refl _).alloc _).alloc _).alloc _⟩)
    | (refine bodyPost_ret (ret_room rfl _ _ _ _ _ _ _ _ _ _ _ rfl (Blk.set8 (Blk.new' _ (by simp) _ _) _ _ _ _ _ _ _ _)) rfl ?_; exact ⟨rfl, ((((Up.refl _).alloc _).alloc _).alloc _).set8 (by simp; omega) _ _ _ _ _ _ _ _⟩)
    | (trace_state; sorry)
end Go.Proofs.YtddoljfkbkbfjaaGreat.T
