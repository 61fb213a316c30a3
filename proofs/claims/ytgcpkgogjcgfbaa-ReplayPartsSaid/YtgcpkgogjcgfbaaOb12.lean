/- What stands at the head of all statements on objects: the document's example; is memory right, of 200 words at most? Heads that are compared, and handed in. -/
import Derived.Test.YtgcpkgogjcgfbaaOb11
namespace Go.Proofs.Ytgcpkgogjcgfbaa
open Go.Joins Go.ChangeShapes Go.WideShapes Go.ChangeAt Go.RowKit Go.Deep
set_option linter.unusedVariables false
set_option linter.unusedSimpArgs false

/-- Are two heads the same? -/
def hsame (t l m t' l' m' : Int) : Bool := t == t' && (l == l' && m == m')
theorem hsame_self (t l m : Int) : hsame t l m t l m = true := by simp [hsame]
theorem eq_head (t l m t' l' m' : Int) (w : World) : (binOp .eql 55 (hdv t l m) (hdv t' l' m')).run Try.prog w = .ok (.bool (hsame t l m t' l' m')) w := by
  rw [run_eql_struct, run_equalIn_agg _ _ _ _ _ (by rw [fieldsOf_of Try.underlying55]; exact Try.underlying55) (by kernel_rfl), fieldsOf_of Try.underlying55]
  simp [Op.eqFields, go_sem, hsame]
  by_cases h : t = t' <;> by_cases k : l = l' <;> by_cases j : m = m' <;> simp [h, k, j]
theorem ne_head (t l m t' l' m' : Int) (w : World) : (binOp .neq 55 (hdv t l m) (hdv t' l' m')).run Try.prog w = .ok (.bool (!hsame t l m t' l' m')) w := by
  rw [run_neq_struct, run_equalIn_agg _ _ _ _ _ (by rw [fieldsOf_of Try.underlying55]; exact Try.underlying55) (by kernel_rfl), fieldsOf_of Try.underlying55]
  simp [Op.eqFields, go_sem, hsame]
  by_cases h : t = t' <;> by_cases k : l = l' <;> by_cases j : m = m' <;> simp [h, k, j]

theorem cells_head : Try.prog.cellsOf 55 = 3 := by kernel_rfl
def few (N : Int) (n0 n1 : Nat) : Bool := rt N n0 n1 && decide (N ≤ 200)
theorem few_is {N : Int} {n0 n1 : Nat} (h : few N n0 n1 = true) : N = n0 ∧ n0 = n1 ∧ 16 ≤ n0 ∧ n0 ≤ 200 := by
  unfold few at h
  rw [Bool.and_eq_true] at h
  obtain ⟨h1, h2⟩ := h
  obtain ⟨a, b, c, d⟩ := of_decide_eq_true h1
  have e := of_decide_eq_true h2
  omega
section
variable {H : Type} {enc : TypeId × Value → H} {w : World}
/-- A head that was handed in, among others' cells. -/
theorem head_cells {fuel : Nat} {v0 v1 v2 : Value} {x : DataW H × List MemPlace} (h : DataW.trod enc Try.prog w 0 (fun _ => true) true fuel 55 [v0, v1, v2] = some x) :
    ∃ t l mp : Int, v0 = .int .i64 t ∧ v1 = .int .i64 l ∧ v2 = .int .u64 mp ∧ I64 t ∧ I64 l ∧ U64 mp := by
  obtain ⟨ys, n, _, _, _, hlen, hf⟩ := DataW.trod_struct Try.underlying55 h
  have f0 := hf 0 _ rfl
  have f1 := hf 1 _ rfl
  have f2 := hf 2 _ rfl
  match ys, hlen with
  | [y0, y1, y2], _ =>
    change DataW.trod enc Try.prog w 0 (fun _ => true) true n 3 (([v0, v1, v2].drop 0).take (Try.prog.cellsOf 3)) = some y0 at f0
    change DataW.trod enc Try.prog w 0 (fun _ => true) true n 3 (([v0, v1, v2].drop 1).take (Try.prog.cellsOf 3)) = some y1 at f1
    change DataW.trod enc Try.prog w 0 (fun _ => true) true n 44 (([v0, v1, v2].drop 2).take (Try.prog.cellsOf 44)) = some y2 at f2
    rw [cells_int] at f0 f1
    rw [cells_u64] at f2
    obtain ⟨t, rfl, ht⟩ := int_open (v := v0) f0
    obtain ⟨l, rfl, hl⟩ := int_open (v := v1) f1
    obtain ⟨mp, rfl, hmp⟩ := u64_open (v := v2) f2
    exact ⟨t, l, mp, rfl, rfl, rfl, ht, hl, hmp⟩
end
theorem sits_wf {w : World} {n : Nat} {A0 A1 : Option Addr} {c0 c1 : Nat} {xs ys : List Int} (h0 : SlOk w A0 n c0 xs) (h1 : SlOk w A1 n c1 ys) : (⟨n, xs, ys⟩ : Me).wf := ⟨h0.2.2.2, h1.2.2.2⟩

def m16 : Me := ⟨16, zers 16, zers 16⟩
def mP : Me := m16.putm 4294967300 1 2 0
def mS : Me := mP.setm 4294967300 1 9
theorem facts : m16.pute 4294967300 1 2 0 = 0 ∧ mP.gete 4294967300 1 = 0 ∧ mP.n = 16 ∧ mS.n = 16 ∧ mS.xs.getD 7 0 = 9 ∧ mS.xs.length = 16 := by decide +kernel
theorem m16_ok : m16.ok ∧ m16.wf := ⟨⟨by decide, by decide, rfl, rfl⟩, by
  have h : ∀ x ∈ zers 16, U64 x := fun x hx => by rw [(List.mem_replicate.1 hx).2]; exact u64_0
  exact ⟨h, h⟩⟩
theorem m16_sits (w : World) (P Q : Addr) (h0 : Row w P (zers 16)) (h1 : Row w Q (zers 16)) : Sits w m16 P Q 16 16 := ⟨m16_ok.1, by decide, by unfold maxLen; decide, by decide, by unfold maxLen; decide, h0, h1⟩

theorem three {w V : World} {c0 c1 c2 : Array Value} {t0 t1 t2 : TypeId} (h : V = (((w.alloc (.cells c0 t0)).alloc (.cells c1 t1)).alloc (.cells c2 t2)).drew) : Up w V ∧ Blk V w.heap.size t0 c0 ∧ Blk V (w.heap.size + 1) t1 c1 ∧ Blk V (w.heap.size + 1 + 1) t2 c2 := by
  subst h
  exact ⟨((((Up.refl w).alloc _).alloc _).alloc _).drew, (((Blk.new' w rfl _ _).alloc _).alloc _).drew, ((Blk.new' _ (by simp) _ _).alloc _).drew, (Blk.new' _ (by simp) _ _).drew⟩
end Go.Proofs.Ytgcpkgogjcgfbaa
