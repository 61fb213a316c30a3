/- What stands at the head of all statements on heads: the document's example; heads that are compared; what a statement is handed, opened; its last step. -/
import Derived.Test.YtelchfmfioofmaaHd7
import Derived.Carry
import Derived.WideKeyArgs
import Derived.ChangeArms
import Derived.Lib.SmallJoins
import Derived.Deep.RegionHeld3
namespace Go.Proofs.Ytelchfmfioofmaa
open Go.Joins Go.ChangeShapes Go.WideShapes Go.ChangeAt Go.RowKit Go.Deep
set_option linter.unusedVariables false
set_option linter.unusedSimpArgs false

theorem wrd_122 : wrd 1 2 2 = 72057602627862530 := by decide
theorem rte_122 : rte 1 2 2 = 0 := by decide
set_option maxHeartbeats 400000 in
theorem shown_any (w : World) : Calls Try.prog 8 #[] w fun e w' => e = .returned (.bool true) ∧ Up w w' := by
  have hW := fun w => word_ok 1 2 2 (by decide) rte_122 w
  rw [wrd_122] at hW
  have hW := Lib.hid hW
  go_enter Try.func8, Try.ntmps8
  go_wp2_with (fail)
  refine (hW.out _).mono ?_
  rintro e w1 ⟨rfl, h1⟩
  go_wp2
  go_ret
  exact ⟨rfl, h1⟩

/-- Are two heads the same? -/
def hsame (t l m t' l' m' : Int) : Bool := t == t' && (l == l' && m == m')
theorem hsame_self (t l m : Int) : hsame t l m t l m = true := by simp [hsame]
theorem hsame_iff {t l m t' l' m' : Int} : hsame t l m t' l' m' = true ↔ t = t' ∧ l = l' ∧ m = m' := by simp [hsame]
theorem eq_head (t l m t' l' m' : Int) (w : World) : (binOp .eql 24 (hdv t l m) (hdv t' l' m')).run Try.prog w = .ok (.bool (hsame t l m t' l' m')) w := by
  rw [run_eql_struct, run_equalIn_agg _ _ _ _ _ (by rw [fieldsOf_of Try.underlying24]; exact Try.underlying24) (by kernel_rfl), fieldsOf_of Try.underlying24]
  simp [Op.eqFields, go_sem, hsame]
  by_cases h : t = t' <;> by_cases k : l = l' <;> by_cases j : m = m' <;> simp [h, k, j]
theorem ne_head (t l m t' l' m' : Int) (w : World) : (binOp .neq 24 (hdv t l m) (hdv t' l' m')).run Try.prog w = .ok (.bool (!hsame t l m t' l' m')) w := by
  rw [run_neq_struct, run_equalIn_agg _ _ _ _ _ (by rw [fieldsOf_of Try.underlying24]; exact Try.underlying24) (by kernel_rfl), fieldsOf_of Try.underlying24]
  simp [Op.eqFields, go_sem, hsame]
  by_cases h : t = t' <;> by_cases k : l = l' <;> by_cases j : m = m' <;> simp [h, k, j]

theorem laid : laidOutB Try.prog = true := by kernel_rfl
theorem cells_head : Try.prog.cellsOf 24 = 3 := by kernel_rfl
section
variable {H : Type} {enc : TypeId × Value → H} {w : World} {base : Nat} {spare : Nat → Bool} {held : Bool}
theorem head_open {r : Reach} {b0 : Nat} {v : Value} {d : DataW H} {p : List MemPlace} (hv : Value.okWide Try.prog w r b0 24 v) (h : DataW.Trod enc Try.prog w base spare held 24 v d p) :
    ∃ t l m : Int, v = hdv t l m ∧ d = .agg [.lit (.int .i64 t), .lit (.int .i64 l), .lit (.int .u64 m)] ∧ p = [] ∧ (Lit.int .i64 t).wf = true ∧ (Lit.int .i64 l).wf = true ∧ (Lit.int .u64 m).wf = true := by
  obtain ⟨v0, v1, v2, y0, y1, y2, n, rfl, rfl, rfl, h0, h1, h2⟩ := open_agg3 Try.underlying24 (by kernel_rfl) cells_head hv h
  obtain ⟨n0, e0, rfl, w0⟩ := DataW.trod_int Try.underlying3 h0
  obtain ⟨n1, e1, rfl, w1⟩ := DataW.trod_int Try.underlying3 h1
  obtain ⟨n2, e2, rfl, w2⟩ := DataW.trod_int Try.underlying22 h2
  cases e0; cases e1; cases e2
  exact ⟨n0, n1, n2, rfl, rfl, rfl, w0, w1, w2⟩
theorem shut_head {t l m : Int} (w0 : (Lit.int .i64 t).wf = true) (w1 : (Lit.int .i64 l).wf = true) (w2 : (Lit.int .u64 m).wf = true) :
    DataW.Trod enc Try.prog w base spare held 24 (hdv t l m) (.agg [.lit (.int .i64 t), .lit (.int .i64 l), .lit (.int .u64 m)]) [] :=
  shut_agg3 (y0 := (.lit (.int .i64 t), [])) (y1 := (.lit (.int .i64 l), [])) (y2 := (.lit (.int .u64 m), [])) Try.underlying24 (by kernel_rfl) cells_head
    ⟨1, trod_int_mk 0 Try.underlying3 w0⟩ ⟨1, trod_int_mk 0 Try.underlying3 w1⟩ ⟨1, trod_int_mk 0 Try.underlying22 w2⟩
end

/-- The last step, in general: old memory is as it was (marks of new blocks may be others). -/
theorem post_below {H : Type} {enc : TypeId × Value → H} {P : Program} {f : Func} {s : ChangeSpec} {apart fresh handsOn again : Bool} {W W' : World} {args : Array Value} {v : Value} {ds gs : List (DataW H)} {before pa pv : List MemPlace}
    (hW : DataW.Whole enc P f.params.toList s.vars apart W args.toList ds gs before)
    (hres : ∀ (b : Nat) (sp : Nat → Bool) (hd : Bool), DataW.TrodAll enc P W' b sp hd f.resultTypes.toList (v.resultList f.resultTypes.size) (s.fn H (ds ++ gs)).results [])
    (hargs : ∀ sp : Nat → Bool, (∀ p ∈ before, sp p.block = true) → DataW.TrodAll enc P W' 0 sp true f.params.toList args.toList (s.fn H (ds ++ gs)).args pa)
    (hvars : ∀ sp : Nat → Bool, (∀ p ∈ before, sp p.block = true) → DataW.TrodVars enc P W' sp s.vars (s.fn H (ds ++ gs)).vars pv)
    (hps : before = pa ++ pv) (hb : Up W W')
    (hok : ∀ (j : Nat) (t : TypeId) (r : Value), f.resultTypes[j]? = some t → (v.resultList f.resultTypes.size)[j]? = some r → Value.okWide P W' .any 0 t r) :
    s.post enc P f apart fresh handsOn again W args v W' := by
  have hlt : ∀ p ∈ before, p.block < W.heap.size := fun p hp => hW.lt p hp
  have hold : ∀ p ∈ before, (fun b => decide (b < W.heap.size)) p.block = true := fun p hp => by simpa using hlt p hp
  refine ⟨ds, gs, before, [], pa, pv, hW, hres _ _ _, hargs _ hold, hvars _ hold, World.keptBut_mono (fun p hp => ⟨hp, ?_⟩) (Below.frame hb (· ∈ before)), fun _ => ?_⟩
  · rw [hps, List.mem_append] at hp
    exact .inr hp
  obtain ⟨_, _, _, _, _, hz, hn⟩ := hW
  refine ⟨hok, _, _, ([] ++ pa) ++ pv, ⟨[] ++ pa, pv, trodAll_append (hargs _ (fun _ _ => rfl)) (hres _ _ _), hvars _ (fun _ _ => rfl), rfl, ?_, ?_⟩, ?_⟩
  · intro b off hp
    have hin : MemPlace.cell b off ∈ before := by rw [hps]; simpa using hp
    rw [Below.frozen hb (hlt _ hin)]
    exact hz b off hin
  · intro ha
    have := hn ha
    rw [hps] at this
    simpa using this
  · intro p hp _
    rw [hps]
    simpa using hp

/-- An argument reads behind the call as it read before. -/
theorem trod_keeps {H : Type} {enc : TypeId × Value → H} {t : TypeId} {W W' : World} {v : Value} {d : DataW H} {ps : List MemPlace} {sp : Nat → Bool} (hr : Try.prog.readableRec t = true) (hrow : t < Try.prog.types.size)
    (h : DataW.Trod enc Try.prog W 0 (fun _ => true) true t v d ps) (hb : Up W W') (hlt : ∀ x ∈ ps, x.block < W.heap.size) (hsp : ∀ x ∈ ps, sp x.block = true) : DataW.Trod enc Try.prog W' 0 sp true t v d ps :=
  WideElems.Trod_stays laid hr hrow h (fun x hx => Below.same hb (hlt x hx)) hsp
end Go.Proofs.Ytelchfmfioofmaa
