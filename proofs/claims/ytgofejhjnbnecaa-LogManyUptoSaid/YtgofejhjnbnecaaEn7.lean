/- Entries, each once (package log: Once, a map keyed by a struct): contracts. -/
import Derived.Test.YtgofejhjnbnecaaEn6
import Derived.DeepKeys4
namespace Go.Proofs.Ytgofejhjnbnecaa
open Go.Joins Go.ChangeShapes Go.WideShapes Go.ChangeAt Go.RowKit Go.Deep Go.Shelf Go.Maps
set_option linter.unusedVariables false
set_option linter.unusedSimpArgs false

/-- Each once, by its last place. -/
def onc : List Ent → List Ent
  | [] => []
  | x :: r => if x ∈ r then onc r else x :: onc r
theorem onc_len : ∀ xs : List Ent, (onc xs).length ≤ xs.length
  | [] => Nat.le_refl _
  | x :: r => by
    have := onc_len r
    unfold onc
    split <;> simp only [List.length_cons] <;> omega
theorem onc_mem : ∀ (xs : List Ent) (a : Ent), a ∈ onc xs ↔ a ∈ xs
  | [], a => Iff.rfl
  | x :: r, a => by
    unfold onc
    split
    · rename_i h
      rw [onc_mem r a, List.mem_cons]
      exact ⟨.inr, fun q => q.elim (fun e => e ▸ h) id⟩
    · rw [List.mem_cons, List.mem_cons, onc_mem r a]
theorem onc_nodup : ∀ xs : List Ent, (onc xs).Nodup
  | [] => List.nodup_nil
  | x :: r => by
    unfold onc
    split
    · exact onc_nodup r
    · rename_i h
      exact List.nodup_cons.2 ⟨fun q => h ((onc_mem r x).1 q), onc_nodup r⟩
theorem onc_id : ∀ {xs : List Ent}, xs.Nodup → onc xs = xs
  | [], _ => rfl
  | x :: r, h => by
    obtain ⟨h1, h2⟩ := List.nodup_cons.1 h
    unfold onc
    rw [if_neg h1, onc_id h2]
theorem onc_step {xs : List Ent} {i : Nat} (h : i < xs.length) : onc (xs.drop i) = if xs.getD i (0, 0) ∈ xs.drop (i + 1) then onc (xs.drop (i + 1)) else xs.getD i (0, 0) :: onc (xs.drop (i + 1)) := by
  rw [drop_one (0, 0) h]
  rfl
/-- The last place of an entry. -/
def lst (ys : List Ent) (a : Ent) : Nat := ys.length - 1 - ys.reverse.idxOf a
theorem lst_snoc (ys : List Ent) (b a : Ent) : lst (ys ++ [b]) a = if a = b then ys.length else lst ys a := by
  unfold lst
  rw [List.reverse_append, List.reverse_singleton, List.singleton_append, List.idxOf_cons, List.length_append, List.length_singleton]
  by_cases h : a = b
  · subst h
    simp
  · have hb : (b == a) = false := beq_eq_false_iff_ne.2 (fun q => h q.symm)
    rw [hb, if_neg h]
    simp only [cond_false]
    omega
theorem lst_last (ys : List Ent) : ∀ i, i < ys.length → (lst ys (ys.getD i (0, 0)) = i ↔ ys.getD i (0, 0) ∉ ys.drop (i + 1)) := by
  have key : ∀ (n : Nat) (ys : List Ent), ys.length = n → ∀ i, i < ys.length → (lst ys (ys.getD i (0, 0)) = i ↔ ys.getD i (0, 0) ∉ ys.drop (i + 1)) := fun n => by
    induction n with
    | zero => intro ys h i hi; omega
    | succ n ih =>
      intro ys h i hi
      obtain ⟨zs, b, rfl⟩ : ∃ zs b, ys = zs ++ [b] := ⟨ys.dropLast, ys.getLast (fun e => by subst e; simp at h), (List.dropLast_concat_getLast _).symm⟩
      have hz : zs.length = n := by simpa using h
      rw [lst_snoc]
      by_cases hi2 : i = zs.length
      · subst hi2
        have e : (zs ++ [b]).getD zs.length (0, 0) = b := by simp [List.getD]
        rw [e, if_pos rfl]
        simp
      · have hi3 : i < zs.length := by simp at hi; omega
        have e : (zs ++ [b]).getD i (0, 0) = zs.getD i (0, 0) := by simp [List.getD, List.getElem?_append_left hi3]
        have e2 : (zs ++ [b]).drop (i + 1) = zs.drop (i + 1) ++ [b] := by rw [List.drop_append_of_le_length (by omega)]
        rw [e, e2]
        by_cases hb : zs.getD i (0, 0) = b
        · rw [if_pos hb]
          constructor
          · intro q; omega
          · intro q; exact absurd (List.mem_append_right _ (by rw [hb]; exact List.mem_singleton_self b)) q
        · rw [if_neg hb, ih zs hz i hi3]
          constructor
          · intro q r
            rcases List.mem_append.1 r with r | r
            · exact q r
            · exact hb (List.mem_singleton.1 r)
          · exact fun q r => q (List.mem_append_left _ r)
  exact key ys.length ys rfl
theorem lst_lt {ys : List Ent} {a : Ent} (h : a ∈ ys) : lst ys a < ys.length := by
  have := List.length_pos_of_mem h
  unfold lst
  omega

/-! ### Keys -/
def OkE (a : Ent) : Prop := U64 a.1 ∧ I64 a.2
def kof (a : Ent) : Lit := .string (keyBytes [.int .u64 a.1, .int .i64 a.2])
theorem rowE : (25 : TypeId) < Try.prog.types.size := of_decide_eq_true (by kernel_rfl)
theorem wideE : (match Try.prog.underlying 25 with | some (.array _ _) | some (.struct _) => true | _ => false) = true := by rw [Try.underlying25]
theorem lawE : Keyed Try.prog 25 := Keyed.of_law (deep_law_laid laid (m := 2) (by omega) rowE (by kernel_rfl) wideE)
theorem wf_of_i64 {a : Int} (h : I64 a) : (Lit.int .i64 a).wf = true := by
  have e : IntKind.i64.min = -9223372036854775808 := by decide
  have e2 : IntKind.i64.max = 9223372036854775807 := by decide
  simp [Lit.wf, e, e2]
  exact h
theorem keyE {a : Ent} (h : OkE a) : keyOf Try.prog 25 (ev a) = some (kof a) := by
  have hkt : Try.prog.keyType 25 = true := by kernel_rfl
  have w1 := wf_of_u64 h.1
  have w2 := wf_of_i64 h.2
  obtain ⟨m, hm⟩ : ∃ m, Try.prog.types.size = m + 1 := Nat.exists_eq_add_one.2 (Nat.zero_lt_of_lt rowE)
  have hcs : Try.prog.cellsOf 25 = 2 := by kernel_rfl
  unfold keyOf
  simp only [Try.underlying25]
  rw [if_pos (by simp [hkt, Value.formed, Try.underlying25, hcs]), hm]
  unfold Program.keyLits
  simp only [Try.underlying25, Value.cells]
  rw [if_pos ⟨by rw [hcs]; rfl, by decide +kernel⟩, List.mapM_cons, List.mapM_cons, List.mapM_nil]
  simp [Program.keyLits, Try.underlying23, Try.underlying3, cells_u64, cells_int, w1, w2, kof]
theorem kof_inj {a b : Ent} (ha : OkE a) (hb : OkE b) (h : kof a = kof b) : a = b := by
  have := lawE.inj (keyE ha) (by rw [h]; exact keyE hb)
  injection this with this
  simp only [List.cons.injEq, Array.mk.injEq, Value.int.injEq, true_and, and_true] at this
  exact Prod.ext this.1 this.2
/-- A datum tells the last places of a row. -/
structure Las (ys : List Ent) (D : DataW Unit) : Prop where
  m : IsMap D
  v : ∀ a z, OkE a → a ∈ ys → D.atKey (kof a) z = .lit (.int .i64 (lst ys a : Nat))
theorem Las.nil : Las [] (.map []) := ⟨⟨_, rfl⟩, fun a z _ h => by cases h⟩
theorem Las.put {ys : List Ent} {D : DataW Unit} {b : Ent} (h : Las ys D) (hb : OkE b) : Las (ys ++ [b]) (D.put (kof b) (.lit (.int .i64 (ys.length : Nat)))) := by
  obtain ⟨es, rfl⟩ := h.m
  refine ⟨⟨_, rfl⟩, fun a z ha hin => ?_⟩
  rw [lst_snoc]
  by_cases q : a = b
  · subst q
    rw [Maps.atKey_put_same h.m (show WideAt.IsKeyLit (kof a) from trivial), if_pos rfl]
  · rw [Maps.atKey_put_other (fun e => q (kof_inj ha hb e)), if_neg q]
    refine h.v a z ha ?_
    rcases List.mem_append.1 hin with r | r
    · exact r
    · exact absurd (List.mem_singleton.1 r) q
theorem zeroI (w : World) : (zeroValue 3).run Try.prog w = .ok (.int .i64 0) w := by kernel_rfl
end Go.Proofs.Ytgofejhjnbnecaa
