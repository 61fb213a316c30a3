/- Package buf: rooms; what is left of a piece; a piece that is none; a room whose piece is filled (Gap, empty, Retire): contracts. -/
import Derived.Test.YtgcpkgogjcgfbaaBm5
namespace Go.Proofs.Ytgcpkgogjcgfbaa
open Go.ChangeShapes Go.WideShapes Go.ChangeAt Go.RowKit
set_option linter.unusedVariables false
set_option linter.unusedSimpArgs false

/-- A room: how many words, both spaces; where the space goes on; the piece. -/
abbrev rov (n : Int) (A B : Value) (s a l x y : Int) : Value := .agg #[.int .i64 n, A, B, .int .i64 s, .int .i64 a, .int .i64 l, .int .i64 x, .int .i64 y]
abbrev roc (n : Int) (A B : Value) (s a l x y : Int) : Array Value := #[.int .i64 n, A, B, .int .i64 s, .int .i64 a, .int .i64 l, .int .i64 x, .int .i64 y]
/-- A space of memory, as it is handed on. -/
abbrev sl (P : Addr) (n c : Nat) : Value := .slice (some P) n c

theorem ret_room {fn : Func} {p : Tmp} (h : fn.results = #[.cell p 31]) (tmps : Array Value) (w : World) (g : Nat) (n s a l x y : Int) (A B : Value)
    (hp : tmps.getD p undef = .pointer (some ⟨g, 0, none⟩)) (hg : Blk w g 31 (roc n A B s a l x y)) :
    (results fn tmps).run Try.prog w = .ok (rov n A B s a l x y) w := by
  have hp' : tmps[p]?.getD undef = .pointer (some ⟨g, 0, none⟩) := by simpa using hp
  simp [results, h, hp', asAddr, run_loadVar_row w g 31 31 _ _ _ hg Try.underlying31 rfl (by kernel_rfl)]
theorem ret_room3 {fn : Func} {p u v : Tmp} (h : fn.results = #[.cell p 31, .tmp u, .tmp v]) (tmps : Array Value) (w : World) (g : Nat) (n s a l x y : Int) (A B b e : Value)
    (hp : tmps.getD p undef = .pointer (some ⟨g, 0, none⟩)) (hg : Blk w g 31 (roc n A B s a l x y)) (hb : tmps.getD u undef = b) (he : tmps.getD v undef = e) :
    (results fn tmps).run Try.prog w = .ok (.tuple #[rov n A B s a l x y, b, e]) w := by
  have hp' : tmps[p]?.getD undef = .pointer (some ⟨g, 0, none⟩) := by simpa using hp
  have hb' : tmps[u]?.getD undef = b := by simpa using hb
  have he' : tmps[v]?.getD undef = e := by simpa using he
  simp [results, h, hp', hb', he', asAddr, run_loadVar_row w g 31 31 _ _ _ hg Try.underlying31 rfl (by kernel_rfl)]

/-- Are two pieces the same? -/
def tsame (x y x' y' : Int) : Bool := x == x' && y == y'
theorem tsame_self (x y : Int) : tsame x y x y = true := by simp [tsame]
theorem eq_buf (x y x' y' : Int) (w : World) : (binOp .eql 29 (.agg #[.int .i64 x, .int .i64 y]) (.agg #[.int .i64 x', .int .i64 y'])).run Try.prog w = .ok (.bool (tsame x y x' y')) w := by
  rw [run_eql_struct, run_equalIn_agg _ _ _ _ _ (by rw [fieldsOf_of Try.underlying29]; exact Try.underlying29) (by kernel_rfl), fieldsOf_of Try.underlying29]
  simp [Op.eqFields, go_sem, tsame]
  by_cases h : x = x' <;> by_cases k : y = y' <;> simp [h, k]

theorem Blk.set8 {w : World} {g : Nat} {t : TypeId} {a0 a1 a2 a3 a4 a5 a6 a7 : Value} (h : Blk w g t #[a0, a1, a2, a3, a4, a5, a6, a7]) (u0 u1 u2 u3 u4 u5 u6 u7 : Value) :
    Blk ((((((((w.setCell ⟨g, 0, none⟩ u0).setCell ⟨g, 1, none⟩ u1).setCell ⟨g, 2, none⟩ u2).setCell ⟨g, 3, none⟩ u3).setCell ⟨g, 4, none⟩ u4).setCell ⟨g, 5, none⟩ u5).setCell ⟨g, 6, none⟩ u6).setCell ⟨g, 7, none⟩ u7) g t #[u0, u1, u2, u3, u4, u5, u6, u7] := by
  have h1 : Blk (w.setCell ⟨g, 0, none⟩ u0) g t #[u0, a1, a2, a3, a4, a5, a6, a7] := h.set_ 0 u0
  have h2 : Blk ((w.setCell ⟨g, 0, none⟩ u0).setCell ⟨g, 1, none⟩ u1) g t #[u0, u1, a2, a3, a4, a5, a6, a7] := h1.set_ 1 u1
  have h3 : Blk (((w.setCell ⟨g, 0, none⟩ u0).setCell ⟨g, 1, none⟩ u1).setCell ⟨g, 2, none⟩ u2) g t #[u0, u1, u2, a3, a4, a5, a6, a7] := h2.set_ 2 u2
  have h4 : Blk ((((w.setCell ⟨g, 0, none⟩ u0).setCell ⟨g, 1, none⟩ u1).setCell ⟨g, 2, none⟩ u2).setCell ⟨g, 3, none⟩ u3) g t #[u0, u1, u2, u3, a4, a5, a6, a7] := h3.set_ 3 u3
  have h5 : Blk (((((w.setCell ⟨g, 0, none⟩ u0).setCell ⟨g, 1, none⟩ u1).setCell ⟨g, 2, none⟩ u2).setCell ⟨g, 3, none⟩ u3).setCell ⟨g, 4, none⟩ u4) g t #[u0, u1, u2, u3, u4, a5, a6, a7] := h4.set_ 4 u4
  have h6 : Blk ((((((w.setCell ⟨g, 0, none⟩ u0).setCell ⟨g, 1, none⟩ u1).setCell ⟨g, 2, none⟩ u2).setCell ⟨g, 3, none⟩ u3).setCell ⟨g, 4, none⟩ u4).setCell ⟨g, 5, none⟩ u5) g t #[u0, u1, u2, u3, u4, u5, a6, a7] := h5.set_ 5 u5
  have h7 : Blk (((((((w.setCell ⟨g, 0, none⟩ u0).setCell ⟨g, 1, none⟩ u1).setCell ⟨g, 2, none⟩ u2).setCell ⟨g, 3, none⟩ u3).setCell ⟨g, 4, none⟩ u4).setCell ⟨g, 5, none⟩ u5).setCell ⟨g, 6, none⟩ u6) g t #[u0, u1, u2, u3, u4, u5, u6, a7] := h6.set_ 6 u6
  have h8 : Blk ((((((((w.setCell ⟨g, 0, none⟩ u0).setCell ⟨g, 1, none⟩ u1).setCell ⟨g, 2, none⟩ u2).setCell ⟨g, 3, none⟩ u3).setCell ⟨g, 4, none⟩ u4).setCell ⟨g, 5, none⟩ u5).setCell ⟨g, 6, none⟩ u6).setCell ⟨g, 7, none⟩ u7) g t #[u0, u1, u2, u3, u4, u5, u6, u7] := h7.set_ 7 u7
  exact h8
theorem Up.set8 {a b : World} (h : Up a b) {g : Nat} (hg : a.heap.size ≤ g) (u0 u1 u2 u3 u4 u5 u6 u7 : Value) : Up a ((((((((b.setCell ⟨g, 0, none⟩ u0).setCell ⟨g, 1, none⟩ u1).setCell ⟨g, 2, none⟩ u2).setCell ⟨g, 3, none⟩ u3).setCell ⟨g, 4, none⟩ u4).setCell ⟨g, 5, none⟩ u5).setCell ⟨g, 6, none⟩ u6).setCell ⟨g, 7, none⟩ u7) :=
  (((((((h.setCell hg u0).setCell hg u1).setCell hg u2).setCell hg u3).setCell hg u4).setCell hg u5).setCell hg u6).setCell hg u7
theorem Sits.far8 {w : World} {m : Me} {p q : Addr} {c d g : Nat} {t : TypeId} {a0 a1 a2 a3 a4 a5 a6 a7 : Value} (h : Sits w m p q c d) (h0 : Blk w g t #[a0, a1, a2, a3, a4, a5, a6, a7]) (u0 u1 u2 u3 u4 u5 u6 u7 : Value) :
    Sits ((((((((w.setCell ⟨g, 0, none⟩ u0).setCell ⟨g, 1, none⟩ u1).setCell ⟨g, 2, none⟩ u2).setCell ⟨g, 3, none⟩ u3).setCell ⟨g, 4, none⟩ u4).setCell ⟨g, 5, none⟩ u5).setCell ⟨g, 6, none⟩ u6).setCell ⟨g, 7, none⟩ u7) m p q c d := by
  have h1 : Blk (w.setCell ⟨g, 0, none⟩ u0) g t #[u0, a1, a2, a3, a4, a5, a6, a7] := h0.set_ 0 u0
  have s1 : Sits (w.setCell ⟨g, 0, none⟩ u0) m p q c d := h.far h0 (by simp) u0
  have h2 : Blk ((w.setCell ⟨g, 0, none⟩ u0).setCell ⟨g, 1, none⟩ u1) g t #[u0, u1, a2, a3, a4, a5, a6, a7] := h1.set_ 1 u1
  have s2 : Sits ((w.setCell ⟨g, 0, none⟩ u0).setCell ⟨g, 1, none⟩ u1) m p q c d := s1.far h1 (by simp) u1
  have h3 : Blk (((w.setCell ⟨g, 0, none⟩ u0).setCell ⟨g, 1, none⟩ u1).setCell ⟨g, 2, none⟩ u2) g t #[u0, u1, u2, a3, a4, a5, a6, a7] := h2.set_ 2 u2
  have s3 : Sits (((w.setCell ⟨g, 0, none⟩ u0).setCell ⟨g, 1, none⟩ u1).setCell ⟨g, 2, none⟩ u2) m p q c d := s2.far h2 (by simp) u2
  have h4 : Blk ((((w.setCell ⟨g, 0, none⟩ u0).setCell ⟨g, 1, none⟩ u1).setCell ⟨g, 2, none⟩ u2).setCell ⟨g, 3, none⟩ u3) g t #[u0, u1, u2, u3, a4, a5, a6, a7] := h3.set_ 3 u3
  have s4 : Sits ((((w.setCell ⟨g, 0, none⟩ u0).setCell ⟨g, 1, none⟩ u1).setCell ⟨g, 2, none⟩ u2).setCell ⟨g, 3, none⟩ u3) m p q c d := s3.far h3 (by simp) u3
  have h5 : Blk (((((w.setCell ⟨g, 0, none⟩ u0).setCell ⟨g, 1, none⟩ u1).setCell ⟨g, 2, none⟩ u2).setCell ⟨g, 3, none⟩ u3).setCell ⟨g, 4, none⟩ u4) g t #[u0, u1, u2, u3, u4, a5, a6, a7] := h4.set_ 4 u4
  have s5 : Sits (((((w.setCell ⟨g, 0, none⟩ u0).setCell ⟨g, 1, none⟩ u1).setCell ⟨g, 2, none⟩ u2).setCell ⟨g, 3, none⟩ u3).setCell ⟨g, 4, none⟩ u4) m p q c d := s4.far h4 (by simp) u4
  have h6 : Blk ((((((w.setCell ⟨g, 0, none⟩ u0).setCell ⟨g, 1, none⟩ u1).setCell ⟨g, 2, none⟩ u2).setCell ⟨g, 3, none⟩ u3).setCell ⟨g, 4, none⟩ u4).setCell ⟨g, 5, none⟩ u5) g t #[u0, u1, u2, u3, u4, u5, a6, a7] := h5.set_ 5 u5
  have s6 : Sits ((((((w.setCell ⟨g, 0, none⟩ u0).setCell ⟨g, 1, none⟩ u1).setCell ⟨g, 2, none⟩ u2).setCell ⟨g, 3, none⟩ u3).setCell ⟨g, 4, none⟩ u4).setCell ⟨g, 5, none⟩ u5) m p q c d := s5.far h5 (by simp) u5
  have h7 : Blk (((((((w.setCell ⟨g, 0, none⟩ u0).setCell ⟨g, 1, none⟩ u1).setCell ⟨g, 2, none⟩ u2).setCell ⟨g, 3, none⟩ u3).setCell ⟨g, 4, none⟩ u4).setCell ⟨g, 5, none⟩ u5).setCell ⟨g, 6, none⟩ u6) g t #[u0, u1, u2, u3, u4, u5, u6, a7] := h6.set_ 6 u6
  have s7 : Sits (((((((w.setCell ⟨g, 0, none⟩ u0).setCell ⟨g, 1, none⟩ u1).setCell ⟨g, 2, none⟩ u2).setCell ⟨g, 3, none⟩ u3).setCell ⟨g, 4, none⟩ u4).setCell ⟨g, 5, none⟩ u5).setCell ⟨g, 6, none⟩ u6) m p q c d := s6.far h6 (by simp) u6
  have h8 : Blk ((((((((w.setCell ⟨g, 0, none⟩ u0).setCell ⟨g, 1, none⟩ u1).setCell ⟨g, 2, none⟩ u2).setCell ⟨g, 3, none⟩ u3).setCell ⟨g, 4, none⟩ u4).setCell ⟨g, 5, none⟩ u5).setCell ⟨g, 6, none⟩ u6).setCell ⟨g, 7, none⟩ u7) g t #[u0, u1, u2, u3, u4, u5, u6, u7] := h7.set_ 7 u7
  have s8 : Sits ((((((((w.setCell ⟨g, 0, none⟩ u0).setCell ⟨g, 1, none⟩ u1).setCell ⟨g, 2, none⟩ u2).setCell ⟨g, 3, none⟩ u3).setCell ⟨g, 4, none⟩ u4).setCell ⟨g, 5, none⟩ u5).setCell ⟨g, 6, none⟩ u6).setCell ⟨g, 7, none⟩ u7) m p q c d := s7.far h7 (by simp) u7
  exact s8

/-- A room is handed back; and two things more. -/
def GivesR (w : World) (m : Me) (s a l x y : Int) (e : Ending) (w' : World) : Prop := ∃ P Q c d, e = .returned (rov m.n (sl P m.n c) (sl Q m.n d) s a l x y) ∧ Sits w' m P Q c d ∧ Up w w'
def GivesR2 (w : World) (m : Me) (s a l x y b z : Int) (e : Ending) (w' : World) : Prop := ∃ P Q c d, e = .returned (.tuple #[rov m.n (sl P m.n c) (sl Q m.n d) s a l x y, .int .u64 b, .int .i64 z]) ∧ Sits w' m P Q c d ∧ Up w w'

end Go.Proofs.Ytgcpkgogjcgfbaa
