/-
  No cell of these rows narrows 'for every input' (looked for: loops, veiled, ifaces, maps, wideKeys, modest, calm, conditions, laid).
  DERIVED. THE GIVEN ROWS OF THIS SEAT. 5 by the template 'for every input the law returns true; each argument reads behind the call as it read before'; 0 by the template 'total and deterministic' (their statements: YtgjalgfdpecbpaaTotals.lean).
  GIVEN WITH THE SEED: the statements are not yours to turn. If you find one false, say at which input.
  Laid BY PROGRAM, IN A SANDBOX (cutbox-rows.mjs): the forced cells as the released guide's own fill.sh prints them over the translation 7e0be2606fed04e9… (all of the seat's roots in one cut). By AI agents, Wed Nov 11 2026. No macro, syntax, notation, axiom, sorry.
-/
import Derived.Test.YtgjalgfdpecbpaaChecked
import GoSem.Claim
import GoSem.ClaimJoined
import GoSem.ClaimMapViews
import Derived.JoinedTies
import Derived.KernelRfl
namespace Go.Proofs.Ytgjalgfdpecbpaa
/- THE CELL 'sum', in the pinned program and in every row, IS THE sha256 OF THE DUMP (.gsa) THAT YtgjalgfdpecbpaaProg.lean LOADS. Nothing in Lean hashes anything: it is a label: what it is worth is what the hold of that sum in a sandbox is worth. -/
noncomputable def Try.pinned : Pinned := { name := "ytgjalgfdpecbpaa", sum := "7e0be2606fed04e9beb63eb65bcc805281e5f8eab7a0c95665b0b53f13c1d04c", checked := Try.checked }
namespace Rows
def none {H : Type} : Left H := { results := [], args := [] }

/-- 'dovecotelaw07.BumpTells': WHATEVER THE INPUT: true; the input reads as it did. -/
def bumpTellsSpec : ChangeSpec := { name := "bumpTells", fn := fun _ => fun
  | [d] => { results := [.lit (.bool true)], args := [d] }
  | _ => none }
def bumpTellsRow : OpenClaim := { program := "ytgjalgfdpecbpaa", sum := "7e0be2606fed04e9beb63eb65bcc805281e5f8eab7a0c95665b0b53f13c1d04c", func := "dovecote/dovecotelaw07.BumpTells", spec := "bumpTells", unfollowed := true, recurses := true, apart := false }
def BumpTellsSaid : Prop := bumpTellsRow.holds Try.pinned (OpenSpec.ofChange bumpTellsSpec)

/-- ITS FALSE NEIGHBOUR: 'it returns false'. Refute it at one input. -/
def bumpTellsWrong : ChangeSpec := { name := "bumpTells", fn := fun _ => fun
  | [d] => { results := [.lit (.bool false)], args := [d] }
  | _ => none }
def BumpTellsWrongFalsely : Prop := bumpTellsRow.holds Try.pinned (OpenSpec.ofChange bumpTellsWrong)

/-- 'dovecotelaw07.BumpRow': WHATEVER THE INPUT: true; the input reads as it did. -/
def bumpRowSpec : ChangeSpec := { name := "bumpRow", fn := fun _ => fun
  | [d1, d2, d3] => { results := [.lit (.bool true)], args := [d1, d2, d3] }
  | _ => none }
def bumpRowRow : OpenClaim := { program := "ytgjalgfdpecbpaa", sum := "7e0be2606fed04e9beb63eb65bcc805281e5f8eab7a0c95665b0b53f13c1d04c", func := "dovecote/dovecotelaw07.BumpRow", spec := "bumpRow", unfollowed := true, recurses := true, apart := false }
def BumpRowSaid : Prop := bumpRowRow.holds Try.pinned (OpenSpec.ofChange bumpRowSpec)

/-- ITS FALSE NEIGHBOUR: 'it returns false'. Refute it at one input. -/
def bumpRowWrong : ChangeSpec := { name := "bumpRow", fn := fun _ => fun
  | [d1, d2, d3] => { results := [.lit (.bool false)], args := [d1, d2, d3] }
  | _ => none }
def BumpRowWrongFalsely : Prop := bumpRowRow.holds Try.pinned (OpenSpec.ofChange bumpRowWrong)

/-- 'dovecotelaw07.BumpMost': WHATEVER THE INPUT: true; the input reads as it did. -/
def bumpMostSpec : ChangeSpec := { name := "bumpMost", fn := fun _ => fun
  | [d1, d2] => { results := [.lit (.bool true)], args := [d1, d2] }
  | _ => none }
def bumpMostRow : OpenClaim := { program := "ytgjalgfdpecbpaa", sum := "7e0be2606fed04e9beb63eb65bcc805281e5f8eab7a0c95665b0b53f13c1d04c", func := "dovecote/dovecotelaw07.BumpMost", spec := "bumpMost", unfollowed := true, recurses := true, apart := false }
def BumpMostSaid : Prop := bumpMostRow.holds Try.pinned (OpenSpec.ofChange bumpMostSpec)

/-- ITS FALSE NEIGHBOUR: 'it returns false'. Refute it at one input. -/
def bumpMostWrong : ChangeSpec := { name := "bumpMost", fn := fun _ => fun
  | [d1, d2] => { results := [.lit (.bool false)], args := [d1, d2] }
  | _ => none }
def BumpMostWrongFalsely : Prop := bumpMostRow.holds Try.pinned (OpenSpec.ofChange bumpMostWrong)

/-- 'dovecotelaw07.BumpNew': WHATEVER THE INPUT: true; the input reads as it did. -/
def bumpNewSpec : ChangeSpec := { name := "bumpNew", fn := fun _ => fun
  | [d1, d2] => { results := [.lit (.bool true)], args := [d1, d2] }
  | _ => none }
def bumpNewRow : OpenClaim := { program := "ytgjalgfdpecbpaa", sum := "7e0be2606fed04e9beb63eb65bcc805281e5f8eab7a0c95665b0b53f13c1d04c", func := "dovecote/dovecotelaw07.BumpNew", spec := "bumpNew", unfollowed := true, recurses := true, apart := false }
def BumpNewSaid : Prop := bumpNewRow.holds Try.pinned (OpenSpec.ofChange bumpNewSpec)

/-- ITS FALSE NEIGHBOUR: 'it returns false'. Refute it at one input. -/
def bumpNewWrong : ChangeSpec := { name := "bumpNew", fn := fun _ => fun
  | [d1, d2] => { results := [.lit (.bool false)], args := [d1, d2] }
  | _ => none }
def BumpNewWrongFalsely : Prop := bumpNewRow.holds Try.pinned (OpenSpec.ofChange bumpNewWrong)

/-- 'dovecotelaw07.BumpRefuses': WHATEVER THE INPUT: true; the input reads as it did. -/
def bumpRefusesSpec : ChangeSpec := { name := "bumpRefuses", fn := fun _ => fun
  | [d1, d2] => { results := [.lit (.bool true)], args := [d1, d2] }
  | _ => none }
def bumpRefusesRow : OpenClaim := { program := "ytgjalgfdpecbpaa", sum := "7e0be2606fed04e9beb63eb65bcc805281e5f8eab7a0c95665b0b53f13c1d04c", func := "dovecote/dovecotelaw07.BumpRefuses", spec := "bumpRefuses", unfollowed := true, recurses := true, apart := false }
def BumpRefusesSaid : Prop := bumpRefusesRow.holds Try.pinned (OpenSpec.ofChange bumpRefusesSpec)

/-- ITS FALSE NEIGHBOUR: 'it returns false'. Refute it at one input. -/
def bumpRefusesWrong : ChangeSpec := { name := "bumpRefuses", fn := fun _ => fun
  | [d1, d2] => { results := [.lit (.bool false)], args := [d1, d2] }
  | _ => none }
def BumpRefusesWrongFalsely : Prop := bumpRefusesRow.holds Try.pinned (OpenSpec.ofChange bumpRefusesWrong)

/- THE SECOND FORM. 'bulk': how many values and letters a reading holds, each counted each time it is reached (what is shared counts as often as it is met; a slice's spare places count too). A statement '..UptoSaid' is the law's where the arguments, and the package variables that the reading takes, are together of bulk at most 1048576: NARROWER than '..Said'. Prove '..Said' where nothing that the law and all that it calls make is longer than what came in: it says more and counts as full. Else prove '..UptoSaid'. A law counts once. -/
mutual
def uptoBulk {H : Type} : DataW H → Nat
  | .lit (.string bytes) => bytes.length + 1
  | .lit _ => 1
  | .nil => 1
  | .ptr d => uptoBulk d + 1
  | .slice elems spare => uptoBulkAll elems + uptoBulkAll spare + 1
  | .agg parts => uptoBulkAll parts + 1
  | .iface _ d => uptoBulk d + 1
  | .map entries => uptoBulkEntries entries + 1
  | .held _ => 1
def uptoBulkAll {H : Type} : List (DataW H) → Nat
  | [] => 0
  | d :: r => uptoBulk d + uptoBulkAll r
def uptoBulkEntries {H : Type} : List (Lit × DataW H) → Nat
  | [] => 0
  | x :: r => uptoBulkEntry x + uptoBulkEntries r
def uptoBulkEntry {H : Type} : Lit × DataW H → Nat
  | (.string bytes, d) => bytes.length + uptoBulk d + 1
  | (_, d) => uptoBulk d + 1
 end
def uptoSmall : (H : Type) → List (DataW H) → Bool := fun _ ds => decide (uptoBulkAll ds ≤ 1048576)
def OpenSpec.upto (s : _root_.Go.ChangeSpec) : _root_.Go.OpenSpec := { _root_.Go.OpenSpec.ofChange s with cond := some uptoSmall }

/-- 'dovecotelaw07.BumpTells', WHERE WHAT IT READS IS OF BULK AT MOST 1048576: true; the input reads as it did. -/
def bumpTellsUptoRow : OpenClaim := { program := "ytgjalgfdpecbpaa", sum := "7e0be2606fed04e9beb63eb65bcc805281e5f8eab7a0c95665b0b53f13c1d04c", func := "dovecote/dovecotelaw07.BumpTells", spec := "bumpTells", unfollowed := true, recurses := true, apart := false, narrowed := true }
def BumpTellsUptoSaid : Prop := bumpTellsUptoRow.holds Try.pinned (OpenSpec.upto bumpTellsSpec)

/-- 'dovecotelaw07.BumpRow', WHERE WHAT IT READS IS OF BULK AT MOST 1048576: true; the input reads as it did. -/
def bumpRowUptoRow : OpenClaim := { program := "ytgjalgfdpecbpaa", sum := "7e0be2606fed04e9beb63eb65bcc805281e5f8eab7a0c95665b0b53f13c1d04c", func := "dovecote/dovecotelaw07.BumpRow", spec := "bumpRow", unfollowed := true, recurses := true, apart := false, narrowed := true }
def BumpRowUptoSaid : Prop := bumpRowUptoRow.holds Try.pinned (OpenSpec.upto bumpRowSpec)

/-- 'dovecotelaw07.BumpMost', WHERE WHAT IT READS IS OF BULK AT MOST 1048576: true; the input reads as it did. -/
def bumpMostUptoRow : OpenClaim := { program := "ytgjalgfdpecbpaa", sum := "7e0be2606fed04e9beb63eb65bcc805281e5f8eab7a0c95665b0b53f13c1d04c", func := "dovecote/dovecotelaw07.BumpMost", spec := "bumpMost", unfollowed := true, recurses := true, apart := false, narrowed := true }
def BumpMostUptoSaid : Prop := bumpMostUptoRow.holds Try.pinned (OpenSpec.upto bumpMostSpec)

/-- 'dovecotelaw07.BumpNew', WHERE WHAT IT READS IS OF BULK AT MOST 1048576: true; the input reads as it did. -/
def bumpNewUptoRow : OpenClaim := { program := "ytgjalgfdpecbpaa", sum := "7e0be2606fed04e9beb63eb65bcc805281e5f8eab7a0c95665b0b53f13c1d04c", func := "dovecote/dovecotelaw07.BumpNew", spec := "bumpNew", unfollowed := true, recurses := true, apart := false, narrowed := true }
def BumpNewUptoSaid : Prop := bumpNewUptoRow.holds Try.pinned (OpenSpec.upto bumpNewSpec)

/-- 'dovecotelaw07.BumpRefuses', WHERE WHAT IT READS IS OF BULK AT MOST 1048576: true; the input reads as it did. -/
def bumpRefusesUptoRow : OpenClaim := { program := "ytgjalgfdpecbpaa", sum := "7e0be2606fed04e9beb63eb65bcc805281e5f8eab7a0c95665b0b53f13c1d04c", func := "dovecote/dovecotelaw07.BumpRefuses", spec := "bumpRefuses", unfollowed := true, recurses := true, apart := false, narrowed := true }
def BumpRefusesUptoSaid : Prop := bumpRefusesUptoRow.holds Try.pinned (OpenSpec.upto bumpRefusesSpec)

end Rows
end Go.Proofs.Ytgjalgfdpecbpaa
