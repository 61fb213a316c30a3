/-
  No cell of these rows narrows 'for every input' (looked for: loops, veiled, ifaces, maps, wideKeys, modest, calm, conditions, laid).
  DERIVED. THE GIVEN ROWS OF THIS SEAT. 6 by the template 'for every input the law returns true; each argument reads behind the call as it read before'; 0 by the template 'total and deterministic' (their statements: YtddoljfkbkbfjaaGreatTotals.lean).
  GIVEN WITH THE SEED: the statements are not yours to turn. If you find one false, say at which input.
  Laid BY PROGRAM, IN A SANDBOX (cutbox-rows.mjs): the forced cells as the released guide's own fill.sh prints them over the translation e6818a0ee1fcdd22… (all of the seat's roots in one cut). By AI agents, Wed Nov 11 2026. No macro, syntax, notation, axiom, sorry.
-/
import Derived.Test.YtddoljfkbkbfjaaGreatChecked
import GoSem.Claim
import GoSem.ClaimJoined
import GoSem.ClaimMapViews
import Derived.JoinedTies
import Derived.KernelRfl
namespace Go.Proofs.YtddoljfkbkbfjaaGreat
/- THE CELL 'sum', in the pinned program and in every row, IS THE sha256 OF THE DUMP (.gsa) THAT YtddoljfkbkbfjaaGreatProg.lean LOADS. Nothing in Lean hashes anything: it is a label: what it is worth is what the hold of that sum in a sandbox is worth. -/
noncomputable def Tryz.pinned : Pinned := { name := "ytddoljfkbkbfjaagreat", sum := "e6818a0ee1fcdd22f62d52668b56084eab7adf848686d95626f9f79da333543f", checked := Tryz.checked }
namespace Rows
def none {H : Type} : Left H := { results := [], args := [] }

/-- 'dovecotelaw17.ActStays': WHATEVER THE INPUT: true; the input reads as it did. -/
def actStaysSpec : ChangeSpec := { name := "actStays", fn := fun _ => fun
  | [d1, d2, d3] => { results := [.lit (.bool true)], args := [d1, d2, d3] }
  | _ => none }
def actStaysRow : OpenClaim := { program := "ytddoljfkbkbfjaagreat", sum := "e6818a0ee1fcdd22f62d52668b56084eab7adf848686d95626f9f79da333543f", func := "dovecote/dovecotelaw17.ActStays", spec := "actStays", unfollowed := true, recurses := true, apart := false }
def ActStaysSaid : Prop := actStaysRow.holds Tryz.pinned (OpenSpec.ofChange actStaysSpec)

/-- ITS FALSE NEIGHBOUR: 'it returns false'. Refute it at one input. -/
def actStaysWrong : ChangeSpec := { name := "actStays", fn := fun _ => fun
  | [d1, d2, d3] => { results := [.lit (.bool false)], args := [d1, d2, d3] }
  | _ => none }
def ActStaysWrongFalsely : Prop := actStaysRow.holds Tryz.pinned (OpenSpec.ofChange actStaysWrong)

/-- 'dovecotelaw17.ActGraph': WHATEVER THE INPUT: true; the input reads as it did. -/
def actGraphSpec : ChangeSpec := { name := "actGraph", fn := fun _ => fun
  | [d1, d2] => { results := [.lit (.bool true)], args := [d1, d2] }
  | _ => none }
def actGraphRow : OpenClaim := { program := "ytddoljfkbkbfjaagreat", sum := "e6818a0ee1fcdd22f62d52668b56084eab7adf848686d95626f9f79da333543f", func := "dovecote/dovecotelaw17.ActGraph", spec := "actGraph", unfollowed := true, recurses := true, apart := false }
def ActGraphSaid : Prop := actGraphRow.holds Tryz.pinned (OpenSpec.ofChange actGraphSpec)

/-- ITS FALSE NEIGHBOUR: 'it returns false'. Refute it at one input. -/
def actGraphWrong : ChangeSpec := { name := "actGraph", fn := fun _ => fun
  | [d1, d2] => { results := [.lit (.bool false)], args := [d1, d2] }
  | _ => none }
def ActGraphWrongFalsely : Prop := actGraphRow.holds Tryz.pinned (OpenSpec.ofChange actGraphWrong)

/-- 'dovecotelaw17.ActEntry': WHATEVER THE INPUT: true; the input reads as it did. -/
def actEntrySpec : ChangeSpec := { name := "actEntry", fn := fun _ => fun
  | [d1, d2] => { results := [.lit (.bool true)], args := [d1, d2] }
  | _ => none }
def actEntryRow : OpenClaim := { program := "ytddoljfkbkbfjaagreat", sum := "e6818a0ee1fcdd22f62d52668b56084eab7adf848686d95626f9f79da333543f", func := "dovecote/dovecotelaw17.ActEntry", spec := "actEntry", unfollowed := true, recurses := true, apart := false }
def ActEntrySaid : Prop := actEntryRow.holds Tryz.pinned (OpenSpec.ofChange actEntrySpec)

/-- ITS FALSE NEIGHBOUR: 'it returns false'. Refute it at one input. -/
def actEntryWrong : ChangeSpec := { name := "actEntry", fn := fun _ => fun
  | [d1, d2] => { results := [.lit (.bool false)], args := [d1, d2] }
  | _ => none }
def ActEntryWrongFalsely : Prop := actEntryRow.holds Tryz.pinned (OpenSpec.ofChange actEntryWrong)

/-- 'dovecotelaw17.ActCounts': WHATEVER THE INPUT: true; the input reads as it did. -/
def actCountsSpec : ChangeSpec := { name := "actCounts", fn := fun _ => fun
  | [d1, d2] => { results := [.lit (.bool true)], args := [d1, d2] }
  | _ => none }
def actCountsRow : OpenClaim := { program := "ytddoljfkbkbfjaagreat", sum := "e6818a0ee1fcdd22f62d52668b56084eab7adf848686d95626f9f79da333543f", func := "dovecote/dovecotelaw17.ActCounts", spec := "actCounts", unfollowed := true, recurses := true, apart := false }
def ActCountsSaid : Prop := actCountsRow.holds Tryz.pinned (OpenSpec.ofChange actCountsSpec)

/-- ITS FALSE NEIGHBOUR: 'it returns false'. Refute it at one input. -/
def actCountsWrong : ChangeSpec := { name := "actCounts", fn := fun _ => fun
  | [d1, d2] => { results := [.lit (.bool false)], args := [d1, d2] }
  | _ => none }
def ActCountsWrongFalsely : Prop := actCountsRow.holds Tryz.pinned (OpenSpec.ofChange actCountsWrong)

/-- 'dovecotelaw17.ActReads': WHATEVER THE INPUT: true; the input reads as it did. -/
def actReadsSpec : ChangeSpec := { name := "actReads", fn := fun _ => fun
  | [d1, d2] => { results := [.lit (.bool true)], args := [d1, d2] }
  | _ => none }
def actReadsRow : OpenClaim := { program := "ytddoljfkbkbfjaagreat", sum := "e6818a0ee1fcdd22f62d52668b56084eab7adf848686d95626f9f79da333543f", func := "dovecote/dovecotelaw17.ActReads", spec := "actReads", unfollowed := true, recurses := true, apart := false }
def ActReadsSaid : Prop := actReadsRow.holds Tryz.pinned (OpenSpec.ofChange actReadsSpec)

/-- ITS FALSE NEIGHBOUR: 'it returns false'. Refute it at one input. -/
def actReadsWrong : ChangeSpec := { name := "actReads", fn := fun _ => fun
  | [d1, d2] => { results := [.lit (.bool false)], args := [d1, d2] }
  | _ => none }
def ActReadsWrongFalsely : Prop := actReadsRow.holds Tryz.pinned (OpenSpec.ofChange actReadsWrong)

/-- 'dovecotelaw17.ActAnswers': WHATEVER THE INPUT: true; the input reads as it did. -/
def actAnswersSpec : ChangeSpec := { name := "actAnswers", fn := fun _ => fun
  | [d] => { results := [.lit (.bool true)], args := [d] }
  | _ => none }
def actAnswersRow : OpenClaim := { program := "ytddoljfkbkbfjaagreat", sum := "e6818a0ee1fcdd22f62d52668b56084eab7adf848686d95626f9f79da333543f", func := "dovecote/dovecotelaw17.ActAnswers", spec := "actAnswers", unfollowed := true, recurses := true, apart := false }
def ActAnswersSaid : Prop := actAnswersRow.holds Tryz.pinned (OpenSpec.ofChange actAnswersSpec)

/-- ITS FALSE NEIGHBOUR: 'it returns false'. Refute it at one input. -/
def actAnswersWrong : ChangeSpec := { name := "actAnswers", fn := fun _ => fun
  | [d] => { results := [.lit (.bool false)], args := [d] }
  | _ => none }
def ActAnswersWrongFalsely : Prop := actAnswersRow.holds Tryz.pinned (OpenSpec.ofChange actAnswersWrong)

/- THE SECOND FORM. 'bulk': how many values and letters a reading holds, each counted each time it is reached (what is shared counts as often as it is met; a slice's spare places count too). A statement '..UptoSaid' is the law's where the arguments, and the package variables that the reading takes, are together of bulk at most 1048576: NARROWER than '..Said'. Prove '..Said' where nothing that the law and all that it calls make is longer than what came in: it says more and counts as full. Else prove '..UptoSaid'. A law counts once. -/
mutual
def uptoBulk {H : Type} : DataW H → Nat
  | .lit (.string bytes) => bytes.length + 1
  | .lit _ => 1
  | .nil => 1
  | .ptr d => uptoBulk d + 1
  | .slice elems spare => uptoBulkAll elems + uptoBulkAll spare + 1
  | .agg parts => uptoBulkAll parts + 1
  | .iface _ d => uptoBulk d + 1
  | .map entries => uptoBulkEntries entries + 1
  | .held _ => 1
def uptoBulkAll {H : Type} : List (DataW H) → Nat
  | [] => 0
  | d :: r => uptoBulk d + uptoBulkAll r
def uptoBulkEntries {H : Type} : List (Lit × DataW H) → Nat
  | [] => 0
  | x :: r => uptoBulkEntry x + uptoBulkEntries r
def uptoBulkEntry {H : Type} : Lit × DataW H → Nat
  | (.string bytes, d) => bytes.length + uptoBulk d + 1
  | (_, d) => uptoBulk d + 1
 end
def uptoSmall : (H : Type) → List (DataW H) → Bool := fun _ ds => decide (uptoBulkAll ds ≤ 1048576)
def OpenSpec.upto (s : _root_.Go.ChangeSpec) : _root_.Go.OpenSpec := { _root_.Go.OpenSpec.ofChange s with cond := some uptoSmall }

/-- 'dovecotelaw17.ActStays', WHERE WHAT IT READS IS OF BULK AT MOST 1048576: true; the input reads as it did. -/
def actStaysUptoRow : OpenClaim := { program := "ytddoljfkbkbfjaagreat", sum := "e6818a0ee1fcdd22f62d52668b56084eab7adf848686d95626f9f79da333543f", func := "dovecote/dovecotelaw17.ActStays", spec := "actStays", unfollowed := true, recurses := true, apart := false, narrowed := true }
def ActStaysUptoSaid : Prop := actStaysUptoRow.holds Tryz.pinned (OpenSpec.upto actStaysSpec)

/-- 'dovecotelaw17.ActGraph', WHERE WHAT IT READS IS OF BULK AT MOST 1048576: true; the input reads as it did. -/
def actGraphUptoRow : OpenClaim := { program := "ytddoljfkbkbfjaagreat", sum := "e6818a0ee1fcdd22f62d52668b56084eab7adf848686d95626f9f79da333543f", func := "dovecote/dovecotelaw17.ActGraph", spec := "actGraph", unfollowed := true, recurses := true, apart := false, narrowed := true }
def ActGraphUptoSaid : Prop := actGraphUptoRow.holds Tryz.pinned (OpenSpec.upto actGraphSpec)

/-- 'dovecotelaw17.ActEntry', WHERE WHAT IT READS IS OF BULK AT MOST 1048576: true; the input reads as it did. -/
def actEntryUptoRow : OpenClaim := { program := "ytddoljfkbkbfjaagreat", sum := "e6818a0ee1fcdd22f62d52668b56084eab7adf848686d95626f9f79da333543f", func := "dovecote/dovecotelaw17.ActEntry", spec := "actEntry", unfollowed := true, recurses := true, apart := false, narrowed := true }
def ActEntryUptoSaid : Prop := actEntryUptoRow.holds Tryz.pinned (OpenSpec.upto actEntrySpec)

/-- 'dovecotelaw17.ActCounts', WHERE WHAT IT READS IS OF BULK AT MOST 1048576: true; the input reads as it did. -/
def actCountsUptoRow : OpenClaim := { program := "ytddoljfkbkbfjaagreat", sum := "e6818a0ee1fcdd22f62d52668b56084eab7adf848686d95626f9f79da333543f", func := "dovecote/dovecotelaw17.ActCounts", spec := "actCounts", unfollowed := true, recurses := true, apart := false, narrowed := true }
def ActCountsUptoSaid : Prop := actCountsUptoRow.holds Tryz.pinned (OpenSpec.upto actCountsSpec)

/-- 'dovecotelaw17.ActReads', WHERE WHAT IT READS IS OF BULK AT MOST 1048576: true; the input reads as it did. -/
def actReadsUptoRow : OpenClaim := { program := "ytddoljfkbkbfjaagreat", sum := "e6818a0ee1fcdd22f62d52668b56084eab7adf848686d95626f9f79da333543f", func := "dovecote/dovecotelaw17.ActReads", spec := "actReads", unfollowed := true, recurses := true, apart := false, narrowed := true }
def ActReadsUptoSaid : Prop := actReadsUptoRow.holds Tryz.pinned (OpenSpec.upto actReadsSpec)

/-- 'dovecotelaw17.ActAnswers', WHERE WHAT IT READS IS OF BULK AT MOST 1048576: true; the input reads as it did. -/
def actAnswersUptoRow : OpenClaim := { program := "ytddoljfkbkbfjaagreat", sum := "e6818a0ee1fcdd22f62d52668b56084eab7adf848686d95626f9f79da333543f", func := "dovecote/dovecotelaw17.ActAnswers", spec := "actAnswers", unfollowed := true, recurses := true, apart := false, narrowed := true }
def ActAnswersUptoSaid : Prop := actAnswersUptoRow.holds Tryz.pinned (OpenSpec.upto actAnswersSpec)

end Rows
end Go.Proofs.YtddoljfkbkbfjaaGreat
