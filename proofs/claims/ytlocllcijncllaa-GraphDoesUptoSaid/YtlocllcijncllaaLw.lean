/- Do, New, Right, Same as the statements ask for them; the document's example; structs compared; what is handed in by value. -/
import Derived.Test.YtlocllcijncllaaNs
import Derived.Test.YtlocllcijncllaaDp
namespace Go.Proofs.Ytlocllcijncllaa
open Go.Joins Go.ChangeShapes Go.WideShapes Go.ChangeAt Go.RowKit Go.Deep Go.Shelf Go.Maps
set_option linter.unusedVariables false
set_option linter.unusedSimpArgs false

theorem GrV.form {w : World} {v : Value} {g : Gr} (h : GrV w v g) : ∃ A c B d, v = .agg #[.slice A g.1.length c, .slice B g.2.length d] ∧ g.1.length ≤ 9223372036854775807 ∧ g.2.length ≤ 9223372036854775807 := by
  obtain ⟨a, b, rfl, h1, h2⟩ := h
  obtain ⟨A, c, rfl, m1⟩ := h1.slice
  obtain ⟨B, d, rfl, m2⟩ := h2.slice
  unfold maxLen at m1 m2
  exact ⟨A, c, B, d, rfl, m1, m2⟩
/-- A graph with its answer comes. -/
def Dn (kn : List Nd) (ks : List (List Int)) (n s : Nat) (e x : Int) (y : Bool) (w : World) (en : Ending) (w' : World) : Prop :=
  ∃ A c B d, en = .returned (.tuple #[.agg #[.slice A n c, .slice B s d], .agg #[.int .i64 e, .int .u64 x, .bool y]]) ∧ GrV w' (.agg #[.slice A n c, .slice B s d]) (kn, ks) ∧ Up w w'
/-- A graph that may be gone on with. -/
structure Ok (g : Gr) : Prop where
  rg : Rg g
  n : g.1.length ≤ 100
  s : g.2.length ≤ 200
  b : g.2.flatten.length ≤ 1048676
theorem Few.ok {g : Gr} {B : Nat} (h : Few g B) (hB : B ≤ 1048576) : Ok g := ⟨h.rg, by have := h.n; omega, h.s, by have := h.b; omega⟩
/-- What a Do comes to, by letters. -/
theorem do_let (g : Gr) (th kd h i k v t l m : Int) (hg : Ok g) (hi : I64 kd) (hv : U64 v) (hm : U64 m) : ∃ kn ks n s e x y, doG g th ⟨kd, h, i, k, v, t, l, m⟩ = ((kn, ks), (e, x, y)) ∧ kn.length = n ∧ ks.length = s ∧
    ∀ W u, GrV W u g → Calls Try.prog 18 #[u, .int .i64 th, .agg #[.int .i64 kd, .int .i64 h, .int .i64 i, .int .i64 k, .int .u64 v, .int .i64 t, .int .i64 l, .int .u64 m]] W (Dn kn ks n s e x y W) := by
  generalize ho : (⟨kd, h, i, k, v, t, l, m⟩ : Op) = o
  have hd := fun W u (hu : GrV W u g) => do_any u g th o W hu hg.rg (by have := hg.n; omega) (hg.rg.fit (by have := hg.n; omega) (by have := hg.s; omega) (by have := hg.b; omega)) (by rw [← ho]; exact hi) (by rw [← ho]; exact hv) (by rw [← ho]; exact hm)
  have e0 : opv o = .agg #[.int .i64 kd, .int .i64 h, .int .i64 i, .int .i64 k, .int .u64 v, .int .i64 t, .int .i64 l, .int .u64 m] := by rw [← ho]; rfl
  rw [← e0]
  generalize doG g th o = K at *
  obtain ⟨⟨kn, ks⟩, e, x, y⟩ := K
  refine ⟨kn, ks, _, _, e, x, y, rfl, rfl, rfl, fun W u hu => (hd W u hu).mono ?_⟩
  rintro en w' ⟨v', rfl, h1, h2⟩
  obtain ⟨A, c, B, d, rfl, -⟩ := h1.form
  exact ⟨A, c, B, d, rfl, h1, h2⟩
theorem eq_ans (a b : Int) (c : Bool) (x y : Int) (z : Bool) (w : World) : (binOp .eql 39 (.agg #[.int .i64 a, .int .u64 b, .bool c]) (.agg #[.int .i64 x, .int .u64 y, .bool z])).run Try.prog w = .ok (.bool (decide (a = x ∧ b = y ∧ c = z))) w := by
  rw [run_eql_struct, run_equalIn_agg _ _ _ _ _ (by rw [fieldsOf_of Try.underlying39]; exact Try.underlying39) (by kernel_rfl), fieldsOf_of Try.underlying39]
  simp [Op.eqFields, go_sem]
  by_cases h : a = x <;> by_cases k : b = y <;> cases c <;> cases z <;> simp [h, k]
end Go.Proofs.Ytlocllcijncllaa
