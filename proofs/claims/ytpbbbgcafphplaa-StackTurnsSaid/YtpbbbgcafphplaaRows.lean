/-
  No cell of these rows narrows 'for every input' (looked for: loops, veiled, ifaces, maps, wideKeys, modest, calm, conditions, laid).
  DERIVED. THE GIVEN ROWS OF THIS SEAT. 8 by the template 'for every input the law returns true; each argument reads behind the call as it read before'; 0 by the template 'total and deterministic' (their statements: YtpbbbgcafphplaaTotals.lean).
  GIVEN WITH THE SEED: the statements are not yours to turn. If you find one false, say at which input.
  Laid BY PROGRAM, IN A SANDBOX (cutbox-rows.mjs): the forced cells as the released guide's own fill.sh prints them over the translation a4ed04f9de518218… (all of the seat's roots in one cut). By AI agents, Wed Nov 11 2026. No macro, syntax, notation, axiom, sorry.
-/
import Derived.Test.YtpbbbgcafphplaaChecked
import GoSem.Claim
import GoSem.ClaimJoined
import GoSem.ClaimMapViews
import Derived.JoinedTies
import Derived.KernelRfl
namespace Go.Proofs.Ytpbbbgcafphplaa
/- THE CELL 'sum', in the pinned program and in every row, IS THE sha256 OF THE DUMP (.gsa) THAT YtpbbbgcafphplaaProg.lean LOADS. Nothing in Lean hashes anything: it is a label: what it is worth is what the hold of that sum in a sandbox is worth. -/
noncomputable def Try.pinned : Pinned := { name := "ytpbbbgcafphplaa", sum := "a4ed04f9de5182187d6d3e33f85c357dceec6aa25a9f2b68fcfd78720254ba49", checked := Try.checked }
namespace Rows
def none {H : Type} : Left H := { results := [], args := [] }

/-- 'dovecotelaw09.StackActs': WHATEVER THE INPUT: true; the input reads as it did. -/
def stackActsSpec : ChangeSpec := { name := "stackActs", fn := fun _ => fun
  | [d] => { results := [.lit (.bool true)], args := [d] }
  | _ => none }
def stackActsRow : OpenClaim := { program := "ytpbbbgcafphplaa", sum := "a4ed04f9de5182187d6d3e33f85c357dceec6aa25a9f2b68fcfd78720254ba49", func := "dovecote/dovecotelaw09.StackActs", spec := "stackActs", unfollowed := true, recurses := true, apart := false }
def StackActsSaid : Prop := stackActsRow.holds Try.pinned (OpenSpec.ofChange stackActsSpec)

/-- ITS FALSE NEIGHBOUR: 'it returns false'. Refute it at one input. -/
def stackActsWrong : ChangeSpec := { name := "stackActs", fn := fun _ => fun
  | [d] => { results := [.lit (.bool false)], args := [d] }
  | _ => none }
def StackActsWrongFalsely : Prop := stackActsRow.holds Try.pinned (OpenSpec.ofChange stackActsWrong)

/-- 'dovecotelaw09.StackTurns': WHATEVER THE INPUT: true; the input reads as it did. -/
def stackTurnsSpec : ChangeSpec := { name := "stackTurns", fn := fun _ => fun
  | [d1, d2, d3] => { results := [.lit (.bool true)], args := [d1, d2, d3] }
  | _ => none }
def stackTurnsRow : OpenClaim := { program := "ytpbbbgcafphplaa", sum := "a4ed04f9de5182187d6d3e33f85c357dceec6aa25a9f2b68fcfd78720254ba49", func := "dovecote/dovecotelaw09.StackTurns", spec := "stackTurns", unfollowed := true, recurses := true, apart := false }
def StackTurnsSaid : Prop := stackTurnsRow.holds Try.pinned (OpenSpec.ofChange stackTurnsSpec)

/-- ITS FALSE NEIGHBOUR: 'it returns false'. Refute it at one input. -/
def stackTurnsWrong : ChangeSpec := { name := "stackTurns", fn := fun _ => fun
  | [d1, d2, d3] => { results := [.lit (.bool false)], args := [d1, d2, d3] }
  | _ => none }
def StackTurnsWrongFalsely : Prop := stackTurnsRow.holds Try.pinned (OpenSpec.ofChange stackTurnsWrong)

/-- 'dovecotelaw09.StackBack': WHATEVER THE INPUT: true; the input reads as it did. -/
def stackBackSpec : ChangeSpec := { name := "stackBack", fn := fun _ => fun
  | [d1, d2, d3] => { results := [.lit (.bool true)], args := [d1, d2, d3] }
  | _ => none }
def stackBackRow : OpenClaim := { program := "ytpbbbgcafphplaa", sum := "a4ed04f9de5182187d6d3e33f85c357dceec6aa25a9f2b68fcfd78720254ba49", func := "dovecote/dovecotelaw09.StackBack", spec := "stackBack", apart := false }
def StackBackSaid : Prop := stackBackRow.holds Try.pinned (OpenSpec.ofChange stackBackSpec)

/-- ITS FALSE NEIGHBOUR: 'it returns false'. Refute it at one input. -/
def stackBackWrong : ChangeSpec := { name := "stackBack", fn := fun _ => fun
  | [d1, d2, d3] => { results := [.lit (.bool false)], args := [d1, d2, d3] }
  | _ => none }
def StackBackWrongFalsely : Prop := stackBackRow.holds Try.pinned (OpenSpec.ofChange stackBackWrong)

/-- 'dovecotelaw09.StackAll': WHATEVER THE INPUT: true; the input reads as it did. -/
def stackAllSpec : ChangeSpec := { name := "stackAll", fn := fun _ => fun
  | [d1, d2, d3] => { results := [.lit (.bool true)], args := [d1, d2, d3] }
  | _ => none }
def stackAllRow : OpenClaim := { program := "ytpbbbgcafphplaa", sum := "a4ed04f9de5182187d6d3e33f85c357dceec6aa25a9f2b68fcfd78720254ba49", func := "dovecote/dovecotelaw09.StackAll", spec := "stackAll", unfollowed := true, recurses := true, apart := false }
def StackAllSaid : Prop := stackAllRow.holds Try.pinned (OpenSpec.ofChange stackAllSpec)

/-- ITS FALSE NEIGHBOUR: 'it returns false'. Refute it at one input. -/
def stackAllWrong : ChangeSpec := { name := "stackAll", fn := fun _ => fun
  | [d1, d2, d3] => { results := [.lit (.bool false)], args := [d1, d2, d3] }
  | _ => none }
def StackAllWrongFalsely : Prop := stackAllRow.holds Try.pinned (OpenSpec.ofChange stackAllWrong)

/-- 'dovecotelaw09.StackThere': WHATEVER THE INPUT: true; the input reads as it did. -/
def stackThereSpec : ChangeSpec := { name := "stackThere", fn := fun _ => fun
  | [d1, d2, d3] => { results := [.lit (.bool true)], args := [d1, d2, d3] }
  | _ => none }
def stackThereRow : OpenClaim := { program := "ytpbbbgcafphplaa", sum := "a4ed04f9de5182187d6d3e33f85c357dceec6aa25a9f2b68fcfd78720254ba49", func := "dovecote/dovecotelaw09.StackThere", spec := "stackThere", unfollowed := true, recurses := true, apart := false }
def StackThereSaid : Prop := stackThereRow.holds Try.pinned (OpenSpec.ofChange stackThereSpec)

/-- ITS FALSE NEIGHBOUR: 'it returns false'. Refute it at one input. -/
def stackThereWrong : ChangeSpec := { name := "stackThere", fn := fun _ => fun
  | [d1, d2, d3] => { results := [.lit (.bool false)], args := [d1, d2, d3] }
  | _ => none }
def StackThereWrongFalsely : Prop := stackThereRow.holds Try.pinned (OpenSpec.ofChange stackThereWrong)

/-- 'dovecotelaw09.StackPops': WHATEVER THE INPUT: true; the input reads as it did. -/
def stackPopsSpec : ChangeSpec := { name := "stackPops", fn := fun _ => fun
  | [d1, d2] => { results := [.lit (.bool true)], args := [d1, d2] }
  | _ => none }
def stackPopsRow : OpenClaim := { program := "ytpbbbgcafphplaa", sum := "a4ed04f9de5182187d6d3e33f85c357dceec6aa25a9f2b68fcfd78720254ba49", func := "dovecote/dovecotelaw09.StackPops", spec := "stackPops", apart := false }
def StackPopsSaid : Prop := stackPopsRow.holds Try.pinned (OpenSpec.ofChange stackPopsSpec)

/-- ITS FALSE NEIGHBOUR: 'it returns false'. Refute it at one input. -/
def stackPopsWrong : ChangeSpec := { name := "stackPops", fn := fun _ => fun
  | [d1, d2] => { results := [.lit (.bool false)], args := [d1, d2] }
  | _ => none }
def StackPopsWrongFalsely : Prop := stackPopsRow.holds Try.pinned (OpenSpec.ofChange stackPopsWrong)

/-- 'dovecotelaw09.StackReal': WHATEVER THE INPUT: true; the input reads as it did. -/
def stackRealSpec : ChangeSpec := { name := "stackReal", fn := fun _ => fun
  | [d1, d2] => { results := [.lit (.bool true)], args := [d1, d2] }
  | _ => none }
def stackRealRow : OpenClaim := { program := "ytpbbbgcafphplaa", sum := "a4ed04f9de5182187d6d3e33f85c357dceec6aa25a9f2b68fcfd78720254ba49", func := "dovecote/dovecotelaw09.StackReal", spec := "stackReal", apart := false }
def StackRealSaid : Prop := stackRealRow.holds Try.pinned (OpenSpec.ofChange stackRealSpec)

/-- ITS FALSE NEIGHBOUR: 'it returns false'. Refute it at one input. -/
def stackRealWrong : ChangeSpec := { name := "stackReal", fn := fun _ => fun
  | [d1, d2] => { results := [.lit (.bool false)], args := [d1, d2] }
  | _ => none }
def StackRealWrongFalsely : Prop := stackRealRow.holds Try.pinned (OpenSpec.ofChange stackRealWrong)

/-- 'dovecotelaw09.StackNone': WHATEVER THE INPUT: true; the input reads as it did. -/
def stackNoneSpec : ChangeSpec := { name := "stackNone", fn := fun _ => fun
  | [d1, d2, d3] => { results := [.lit (.bool true)], args := [d1, d2, d3] }
  | _ => none }
def stackNoneRow : OpenClaim := { program := "ytpbbbgcafphplaa", sum := "a4ed04f9de5182187d6d3e33f85c357dceec6aa25a9f2b68fcfd78720254ba49", func := "dovecote/dovecotelaw09.StackNone", spec := "stackNone", unfollowed := true, recurses := true, apart := false }
def StackNoneSaid : Prop := stackNoneRow.holds Try.pinned (OpenSpec.ofChange stackNoneSpec)

/-- ITS FALSE NEIGHBOUR: 'it returns false'. Refute it at one input. -/
def stackNoneWrong : ChangeSpec := { name := "stackNone", fn := fun _ => fun
  | [d1, d2, d3] => { results := [.lit (.bool false)], args := [d1, d2, d3] }
  | _ => none }
def StackNoneWrongFalsely : Prop := stackNoneRow.holds Try.pinned (OpenSpec.ofChange stackNoneWrong)

/- THE SECOND FORM. 'bulk': how many values and letters a reading holds, each counted each time it is reached (what is shared counts as often as it is met; a slice's spare places count too). A statement '..UptoSaid' is the law's where the arguments, and the package variables that the reading takes, are together of bulk at most 1048576: NARROWER than '..Said'. Prove '..Said' where nothing that the law and all that it calls make is longer than what came in: it says more and counts as full. Else prove '..UptoSaid'. A law counts once. -/
mutual
def uptoBulk {H : Type} : DataW H → Nat
  | .lit (.string bytes) => bytes.length + 1
  | .lit _ => 1
  | .nil => 1
  | .ptr d => uptoBulk d + 1
  | .slice elems spare => uptoBulkAll elems + uptoBulkAll spare + 1
  | .agg parts => uptoBulkAll parts + 1
  | .iface _ d => uptoBulk d + 1
  | .map entries => uptoBulkEntries entries + 1
  | .held _ => 1
def uptoBulkAll {H : Type} : List (DataW H) → Nat
  | [] => 0
  | d :: r => uptoBulk d + uptoBulkAll r
def uptoBulkEntries {H : Type} : List (Lit × DataW H) → Nat
  | [] => 0
  | x :: r => uptoBulkEntry x + uptoBulkEntries r
def uptoBulkEntry {H : Type} : Lit × DataW H → Nat
  | (.string bytes, d) => bytes.length + uptoBulk d + 1
  | (_, d) => uptoBulk d + 1
 end
def uptoSmall : (H : Type) → List (DataW H) → Bool := fun _ ds => decide (uptoBulkAll ds ≤ 1048576)
def OpenSpec.upto (s : _root_.Go.ChangeSpec) : _root_.Go.OpenSpec := { _root_.Go.OpenSpec.ofChange s with cond := some uptoSmall }

/-- 'dovecotelaw09.StackActs', WHERE WHAT IT READS IS OF BULK AT MOST 1048576: true; the input reads as it did. -/
def stackActsUptoRow : OpenClaim := { program := "ytpbbbgcafphplaa", sum := "a4ed04f9de5182187d6d3e33f85c357dceec6aa25a9f2b68fcfd78720254ba49", func := "dovecote/dovecotelaw09.StackActs", spec := "stackActs", unfollowed := true, recurses := true, apart := false, narrowed := true }
def StackActsUptoSaid : Prop := stackActsUptoRow.holds Try.pinned (OpenSpec.upto stackActsSpec)

/-- 'dovecotelaw09.StackTurns', WHERE WHAT IT READS IS OF BULK AT MOST 1048576: true; the input reads as it did. -/
def stackTurnsUptoRow : OpenClaim := { program := "ytpbbbgcafphplaa", sum := "a4ed04f9de5182187d6d3e33f85c357dceec6aa25a9f2b68fcfd78720254ba49", func := "dovecote/dovecotelaw09.StackTurns", spec := "stackTurns", unfollowed := true, recurses := true, apart := false, narrowed := true }
def StackTurnsUptoSaid : Prop := stackTurnsUptoRow.holds Try.pinned (OpenSpec.upto stackTurnsSpec)

/-- 'dovecotelaw09.StackBack', WHERE WHAT IT READS IS OF BULK AT MOST 1048576: true; the input reads as it did. -/
def stackBackUptoRow : OpenClaim := { program := "ytpbbbgcafphplaa", sum := "a4ed04f9de5182187d6d3e33f85c357dceec6aa25a9f2b68fcfd78720254ba49", func := "dovecote/dovecotelaw09.StackBack", spec := "stackBack", apart := false, narrowed := true }
def StackBackUptoSaid : Prop := stackBackUptoRow.holds Try.pinned (OpenSpec.upto stackBackSpec)

/-- 'dovecotelaw09.StackAll', WHERE WHAT IT READS IS OF BULK AT MOST 1048576: true; the input reads as it did. -/
def stackAllUptoRow : OpenClaim := { program := "ytpbbbgcafphplaa", sum := "a4ed04f9de5182187d6d3e33f85c357dceec6aa25a9f2b68fcfd78720254ba49", func := "dovecote/dovecotelaw09.StackAll", spec := "stackAll", unfollowed := true, recurses := true, apart := false, narrowed := true }
def StackAllUptoSaid : Prop := stackAllUptoRow.holds Try.pinned (OpenSpec.upto stackAllSpec)

/-- 'dovecotelaw09.StackThere', WHERE WHAT IT READS IS OF BULK AT MOST 1048576: true; the input reads as it did. -/
def stackThereUptoRow : OpenClaim := { program := "ytpbbbgcafphplaa", sum := "a4ed04f9de5182187d6d3e33f85c357dceec6aa25a9f2b68fcfd78720254ba49", func := "dovecote/dovecotelaw09.StackThere", spec := "stackThere", unfollowed := true, recurses := true, apart := false, narrowed := true }
def StackThereUptoSaid : Prop := stackThereUptoRow.holds Try.pinned (OpenSpec.upto stackThereSpec)

/-- 'dovecotelaw09.StackPops', WHERE WHAT IT READS IS OF BULK AT MOST 1048576: true; the input reads as it did. -/
def stackPopsUptoRow : OpenClaim := { program := "ytpbbbgcafphplaa", sum := "a4ed04f9de5182187d6d3e33f85c357dceec6aa25a9f2b68fcfd78720254ba49", func := "dovecote/dovecotelaw09.StackPops", spec := "stackPops", apart := false, narrowed := true }
def StackPopsUptoSaid : Prop := stackPopsUptoRow.holds Try.pinned (OpenSpec.upto stackPopsSpec)

/-- 'dovecotelaw09.StackReal', WHERE WHAT IT READS IS OF BULK AT MOST 1048576: true; the input reads as it did. -/
def stackRealUptoRow : OpenClaim := { program := "ytpbbbgcafphplaa", sum := "a4ed04f9de5182187d6d3e33f85c357dceec6aa25a9f2b68fcfd78720254ba49", func := "dovecote/dovecotelaw09.StackReal", spec := "stackReal", apart := false, narrowed := true }
def StackRealUptoSaid : Prop := stackRealUptoRow.holds Try.pinned (OpenSpec.upto stackRealSpec)

/-- 'dovecotelaw09.StackNone', WHERE WHAT IT READS IS OF BULK AT MOST 1048576: true; the input reads as it did. -/
def stackNoneUptoRow : OpenClaim := { program := "ytpbbbgcafphplaa", sum := "a4ed04f9de5182187d6d3e33f85c357dceec6aa25a9f2b68fcfd78720254ba49", func := "dovecote/dovecotelaw09.StackNone", spec := "stackNone", unfollowed := true, recurses := true, apart := false, narrowed := true }
def StackNoneUptoSaid : Prop := stackNoneUptoRow.holds Try.pinned (OpenSpec.upto stackNoneSpec)

end Rows
end Go.Proofs.Ytpbbbgcafphplaa
