/- Heaps by value, their cells a letter: loads and stores as one step; contracts over letters. -/
import Derived.Test.YtddoljfkbkbfjaaGreatUe
import Derived.Test.YtddoljfkbkbfjaaGreatUh
import Derived.Deep.WholeRow
import Derived.BigFrame
namespace Go.Proofs.YtddoljfkbkbfjaaGreat.T
open G
open Go.Joins Go.ChangeShapes Go.WideShapes Go.ChangeAt Go.RowKit Go.Deep Go.Shelf Go.Maps
set_option linter.unusedVariables false
set_option linter.unusedSimpArgs false

theorem heap_info : (Tryz.prog.info? 32).map (·.size) = some 17 := by kernel_rfl
section
variable {ops : Array Oper} {rest : List Oper} {o : Oper} {a : Act} {w : World} {Q : Exit → Act → World → Prop} {g : Nat} {C old : Array Value}
/-- A heap is read. -/
theorem heap_load (hw : Region.wanted o (yielded ops a.tmps) = true) (x : Operand) (ho : o.op = .load 32 x) (hx : a.eval x = .pointer (some ⟨g, 0, none⟩)) (hb : Blk w g 32 C) (hs : C.size = 17)
    (h : wpList Tryz.prog ops Q rest (a.put o.dst (.agg C)) w) : wpList Tryz.prog ops Q (o :: rest) a w :=
  BigFrame.wpList_want hw fun K hK => wp_load_row 32 x ho g hx 32 C (0, 0) _ hb Tryz.underlying32 rfl (by rw [hs]; exact heap_info) (hK _ _ h)
/-- A heap is written into a box that is new. -/
theorem heap_new {w0 : World} (hw : Region.wanted o (yielded ops a.tmps) = true) (x y : Operand) (ho : o.op = .store 32 x y) (hx : a.eval x = .pointer (some ⟨g, 0, none⟩)) (hy : a.eval y = .agg C) (hwz : w = w0.alloc (.cells old 32)) (hg : g = w0.heap.size) (hs : C.size = 17) (hz : old.size = 17) (h1 : C.all (·.oneCell') = true)
    (h : wpList Tryz.prog ops Q rest (a.put o.dst undef) (w0.alloc (.cells C 32))) : wpList Tryz.prog ops Q (o :: rest) a w := by
  subst hwz
  subst hg
  refine BigFrame.wpList_want hw fun K hK => wp_store_row 32 x y ho w0.heap.size C hx hy 32 old (Blk.new w0 _ _) (by rw [hs]; exact heap_info) (by rw [hs, hz]) h1 (hK _ _ ?_)
  rw [World.setRow_alloc_new]
  exact h
end
theorem one_slice {A : Option Addr} {n c : Nat} : (Value.slice A n c).oneCell' = true := rfl
theorem hpc_size (h : Hp) (P Q : Addr) (c d : Nat) (vt vo : Value) : (hpc h P Q c d vt vo).size = 17 := rfl
theorem HpR.size {w : World} {C : Array Value} {h : Hp} (k : HpR w (.agg C) h) : C.size = 17 := by
  obtain ⟨P, Q, c, d, vt, vo, us, e, -⟩ := k
  cases e
  rfl
theorem HpR.one {w : World} {C : Array Value} {h : Hp} (k : HpR w (.agg C) h) : C.all (·.oneCell') = true := by
  obtain ⟨P, Q, c, d, vt, vo, us, e, -, h2, -, h4⟩ := k
  obtain ⟨A, n, rfl, -⟩ := h2
  obtain ⟨B, m, rfl, -⟩ := h4
  cases e
  simp [hpc, Value.oneCell']
/-- Where the cells are. -/
structure HpX (w : World) (C : Array Value) (h : Hp) (P Q : Addr) (c d : Nat) (A : Option Addr) (ct : Nat) (us : List Tv) (B : Option Addr) (co : Nat) : Prop where
  e : C = hpc h P Q c d (.slice A h.th.length ct) (.slice B h.od.length co)
  s : Sits w h.m P Q c d
  r : Rc tvc w (.slice A h.th.length ct) us
  t : ThsR w us h.th
  o : Rc inc w (.slice B h.od.length co) h.od
theorem HpR.x {w : World} {C : Array Value} {h : Hp} (k : HpR w (.agg C) h) : ∃ P Q c d A ct us B co, HpX w C h P Q c d A ct us B co := by
  obtain ⟨P, Q, c, d, vt, vo, us, e, h1, h2, h3, h4⟩ := k
  obtain ⟨A, n, rfl, k1⟩ := id h2
  obtain ⟨B, m, rfl, -⟩ := id h4
  cases e
  have hl := h3.1
  rw [hl] at h2
  exact ⟨P, Q, c, d, A, n, us, B, m, by rw [hl], h1, h2, h3, h4⟩
theorem HpX.hpR {w : World} {C : Array Value} {h : Hp} {P Q : Addr} {c d : Nat} {A : Option Addr} {ct : Nat} {us : List Tv} {B : Option Addr} {co : Nat} (k : HpX w C h P Q c d A ct us B co) : HpR w (.agg C) h :=
  ⟨P, Q, c, d, _, _, us, by rw [k.e], k.s, k.r, k.t, k.o⟩
/-- A heap comes back. -/
def OutC (h : Hp) (w : World) (e : Ending) (w' : World) : Prop := ∃ C, e = .returned (.agg C) ∧ HpR w' (.agg C) h ∧ Up w w'
theorem outC {h : Hp} {w : World} {e : Ending} {w' : World} (k : OutH h w e w') : OutC h w e w' := by
  obtain ⟨v, rfl, h1, h2⟩ := k
  obtain ⟨P, Q, c, d, vt, vo, us, rfl, h3⟩ := id h1
  exact ⟨_, rfl, h1, h2⟩
section
variable {w : World} {C : Array Value} {h : Hp}
theorem do_c (k : HpR w (.agg C) h) (hF : HpF h) (hG : HpG h) (th : Int) : Calls Tryz.prog 11 #[.agg C, .int .i64 th] w (OutC (didH h th) w) := by
  obtain ⟨P, Q, c, d, vt, vo, us, e, h1, h2, h3, h4⟩ := k
  cases e
  exact (do_any h P Q c d vt vo us w h1 h2 h3 h4 hF hG th).mono fun _ _ q => outC q
theorem answer_c (k : HpR w (.agg C) h) (hF : HpF h) (a : An) (th : Int) : Calls Tryz.prog 22 #[.agg C, .int .i64 th, .agg #[.int .i64 a.1, .int .u64 a.2.1, .bool a.2.2]] w (OutC (answered h th a) w) := by
  obtain ⟨P, Q, c, d, vt, vo, us, e, h1, h2, h3, h4⟩ := k
  cases e
  exact (answer_any h P Q c d vt vo us w h1 h2 h3 h4 hF a th).mono fun _ _ q => outC q
theorem can_c (k : HpR w (.agg C) h) (th : Int) : Calls Tryz.prog 13 #[.agg C, .int .i64 th] w fun e w' => e = .returned (.bool (canB h th)) ∧ Up w w' := by
  obtain ⟨P, Q, c, d, vt, vo, us, e, h1, h2, h3, h4⟩ := k
  cases e
  exact can_any h P Q c d vt vo us w h2 h3 h4 th
theorem same_c {C' : Array Value} (k : HpR w (.agg C) h) (k' : HpR w (.agg C') h) : Calls Tryz.prog 14 #[.agg C, .agg C'] w fun e w' => e = .returned (.bool true) ∧ Up w w' := rheap_yes _ _ h w k k'
theorem right_c (k : HpR w (.agg C) h) : Calls Tryz.prog 12 #[.agg C] w fun e w' => e = .returned (.bool (rgH h.m.n h.m.n h.m.n h)) ∧ Up w w' := by
  obtain ⟨P, Q, c, d, vt, vo, us, e, h1, h2, h3, h4⟩ := k
  cases e
  exact rright_any h h.m.n (some P) (some Q) h.m.n h.m.n c d vt vo us w h2 h3 h4
end
/-- The world under a name. -/
theorem list_at {P : Program} {ops : Array Oper} {rest : List Oper} {a : Act} {w : World} {Q : Exit → Act → World → Prop} (h : ∀ V, V = w → wpList P ops Q rest a V) : wpList P ops Q rest a w := h w rfl
theorem put_none {a : Act} {v : Value} : a.put none v = a := rfl
end Go.Proofs.YtddoljfkbkbfjaaGreat.T
