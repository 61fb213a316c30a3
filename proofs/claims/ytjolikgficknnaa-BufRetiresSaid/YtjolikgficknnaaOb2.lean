/- What is told of an object at an address (object.At, known): contracts of the closures and of the calls. -/
import Derived.Test.YtjolikgficknnaaOb1
namespace Go.Proofs.Ytjolikgficknnaa
open Go.ChangeShapes Go.WideShapes Go.ChangeAt Go.RowKit
set_option linter.unusedVariables false
set_option linter.unusedSimpArgs false

abbrev bx (B : Nat) : Value := .pointer (some ⟨B, 0, none⟩)
abbrev hcs (t l mp : Int) : Array Value := #[.int .i64 t, .int .i64 l, .int .u64 mp]

/-- The address of an object: what is told, and why not. -/
def Me.atok (m : Me) (a : Int) : Prop := m.there a ∧ tkb (m.ld a) ∧ m.inn a (wdn (tgw (m.ld a)) (lnw (m.ld a)))
instance decAtok (m : Me) (a : Int) : Decidable (m.atok a) := by unfold Me.atok; infer_instance
def Me.ate (m : Me) (a : Int) : Int := if m.there a then (if tkb (m.ld a) then (if m.inn a (wdn (tgw (m.ld a)) (lnw (m.ld a))) then 0 else 2) else 10) else 2
def Me.att (m : Me) (a : Int) : Int := if m.atok a then tgw (m.ld a) else 0
def Me.atl (m : Me) (a : Int) : Int := if m.atok a then lnw (m.ld a) else 0
def Me.atm (m : Me) (a : Int) : Int := if m.atok a then mpw (m.ld a) else 0
theorem ate_0 {m : Me} {a : Int} : m.ate a = 0 ↔ m.atok a := by
  unfold Me.ate Me.atok
  by_cases h1 : m.there a
  · by_cases h2 : tkb (m.ld a)
    · by_cases h3 : m.inn a (wdn (tgw (m.ld a)) (lnw (m.ld a))) <;> simp [h1, h2, h3]
    · simp [h1, h2]
  · simp [h1]

/-- All words of memory are words. -/
def Me.wf (m : Me) : Prop := (∀ x ∈ m.xs, U64 x) ∧ (∀ x ∈ m.ys, U64 x)
theorem Me.wf.sp {m : Me} (h : m.wf) (s : Int) : ∀ x ∈ m.sp s, U64 x := by
  unfold Me.sp
  split
  · exact h.2
  · exact h.1
theorem u64_0 : U64 0 := ⟨by decide, by decide⟩
theorem Me.wf.ld {m : Me} (h : m.wf) (a : Int) : U64 (m.ld a) := by
  unfold Me.ld
  split
  · unfold List.getD
    cases e : (m.sp (whs a))[(whp a).toNat]? with
    | none => exact u64_0
    | some x => exact h.sp _ x (List.mem_of_getElem? e)
  · exact u64_0
theorem Me.wf.st {m : Me} (h : m.wf) {v : Int} (hv : U64 v) (a : Int) : (m.st a v).wf := by
  have hs : ∀ x ∈ (m.sp (whs a)).set (whp a).toNat v, U64 x := fun x hx => by
    rcases List.mem_or_eq_of_mem_set hx with q | rfl
    · exact h.sp _ x q
    · exact hv
  unfold Me.st
  split
  · unfold Me.put
    split
    · exact ⟨h.1, hs⟩
    · exact ⟨hs, h.2⟩
  · exact h
theorem atok_rte {m : Me} {a : Int} (h : m.atok a) : rte (tgw (m.ld a)) (lnw (m.ld a)) (mpw (m.ld a)) = 0 := h.2.1
theorem at_of {m : Me} {a : Int} (h : m.atok a) : m.att a = tgw (m.ld a) ∧ m.atl a = lnw (m.ld a) ∧ m.atm a = mpw (m.ld a) := ⟨if_pos h, if_pos h, if_pos h⟩
theorem at_no {m : Me} {a : Int} (h : ¬ m.atok a) : m.att a = 0 ∧ m.atl a = 0 ∧ m.atm a = 0 := ⟨if_neg h, if_neg h, if_neg h⟩

/-- What the row of At comes to. -/
def AtPhi (m : Me) (a : Int) (Bh : Nat) (x : Int) (w' : World) : Prop := x = m.ate a ∧ (x = 0 → Blk w' Bh 39 (hcs (m.att a) (m.atl a) (m.atm a)))
end Go.Proofs.Ytjolikgficknnaa
