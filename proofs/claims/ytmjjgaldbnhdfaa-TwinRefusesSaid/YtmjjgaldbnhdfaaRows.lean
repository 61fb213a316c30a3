/-
  No cell of these rows narrows 'for every input' (looked for: loops, veiled, ifaces, maps, wideKeys, modest, calm, conditions, laid).
  DERIVED. THE GIVEN ROWS OF THIS SEAT. 4 by the template 'for every input the law returns true; each argument reads behind the call as it read before'; 0 by the template 'total and deterministic' (their statements: YtmjjgaldbnhdfaaTotals.lean).
  GIVEN WITH THE SEED: the statements are not yours to turn. If you find one false, say at which input.
  Laid BY PROGRAM, IN A SANDBOX (cutbox-rows.mjs): the forced cells as the released guide's own fill.sh prints them over the translation e51fa5c51f33d4f8… (all of the seat's roots in one cut). By AI agents, Wed Nov 11 2026. No macro, syntax, notation, axiom, sorry.
-/
import Derived.Test.YtmjjgaldbnhdfaaChecked
import GoSem.Claim
import GoSem.ClaimJoined
import GoSem.ClaimMapViews
import Derived.JoinedTies
import Derived.KernelRfl
namespace Go.Proofs.Ytmjjgaldbnhdfaa
/- THE CELL 'sum', in the pinned program and in every row, IS THE sha256 OF THE DUMP (.gsa) THAT YtmjjgaldbnhdfaaProg.lean LOADS. Nothing in Lean hashes anything: it is a label: what it is worth is what the hold of that sum in a sandbox is worth. -/
noncomputable def Try.pinned : Pinned := { name := "ytmjjgaldbnhdfaa", sum := "e51fa5c51f33d4f8152e4ddeae1f4d68b38afd9c4cd063fc6e4f822151589d8d", checked := Try.checked }
namespace Rows
def none {H : Type} : Left H := { results := [], args := [] }

/-- 'dovecotelaw11.TwinKeeps': WHATEVER THE INPUT: true; the input reads as it did. -/
def twinKeepsSpec : ChangeSpec := { name := "twinKeeps", fn := fun _ => fun
  | [d1, d2, d3] => { results := [.lit (.bool true)], args := [d1, d2, d3] }
  | _ => none }
def twinKeepsRow : OpenClaim := { program := "ytmjjgaldbnhdfaa", sum := "e51fa5c51f33d4f8152e4ddeae1f4d68b38afd9c4cd063fc6e4f822151589d8d", func := "dovecote/dovecotelaw11.TwinKeeps", spec := "twinKeeps", unfollowed := true, recurses := true, apart := false }
def TwinKeepsSaid : Prop := twinKeepsRow.holds Try.pinned (OpenSpec.ofChange twinKeepsSpec)

/-- ITS FALSE NEIGHBOUR: 'it returns false'. Refute it at one input. -/
def twinKeepsWrong : ChangeSpec := { name := "twinKeeps", fn := fun _ => fun
  | [d1, d2, d3] => { results := [.lit (.bool false)], args := [d1, d2, d3] }
  | _ => none }
def TwinKeepsWrongFalsely : Prop := twinKeepsRow.holds Try.pinned (OpenSpec.ofChange twinKeepsWrong)

/-- 'dovecotelaw11.TwinMany': WHATEVER THE INPUT: true; the input reads as it did. -/
def twinManySpec : ChangeSpec := { name := "twinMany", fn := fun _ => fun
  | [d1, d2, d3] => { results := [.lit (.bool true)], args := [d1, d2, d3] }
  | _ => none }
def twinManyRow : OpenClaim := { program := "ytmjjgaldbnhdfaa", sum := "e51fa5c51f33d4f8152e4ddeae1f4d68b38afd9c4cd063fc6e4f822151589d8d", func := "dovecote/dovecotelaw11.TwinMany", spec := "twinMany", unfollowed := true, recurses := true, apart := false }
def TwinManySaid : Prop := twinManyRow.holds Try.pinned (OpenSpec.ofChange twinManySpec)

/-- ITS FALSE NEIGHBOUR: 'it returns false'. Refute it at one input. -/
def twinManyWrong : ChangeSpec := { name := "twinMany", fn := fun _ => fun
  | [d1, d2, d3] => { results := [.lit (.bool false)], args := [d1, d2, d3] }
  | _ => none }
def TwinManyWrongFalsely : Prop := twinManyRow.holds Try.pinned (OpenSpec.ofChange twinManyWrong)

/-- 'dovecotelaw11.TwinRefuses': WHATEVER THE INPUT: true; the input reads as it did. -/
def twinRefusesSpec : ChangeSpec := { name := "twinRefuses", fn := fun _ => fun
  | [d1, d2] => { results := [.lit (.bool true)], args := [d1, d2] }
  | _ => none }
def twinRefusesRow : OpenClaim := { program := "ytmjjgaldbnhdfaa", sum := "e51fa5c51f33d4f8152e4ddeae1f4d68b38afd9c4cd063fc6e4f822151589d8d", func := "dovecote/dovecotelaw11.TwinRefuses", spec := "twinRefuses", unfollowed := true, recurses := true, apart := false }
def TwinRefusesSaid : Prop := twinRefusesRow.holds Try.pinned (OpenSpec.ofChange twinRefusesSpec)

/-- ITS FALSE NEIGHBOUR: 'it returns false'. Refute it at one input. -/
def twinRefusesWrong : ChangeSpec := { name := "twinRefuses", fn := fun _ => fun
  | [d1, d2] => { results := [.lit (.bool false)], args := [d1, d2] }
  | _ => none }
def TwinRefusesWrongFalsely : Prop := twinRefusesRow.holds Try.pinned (OpenSpec.ofChange twinRefusesWrong)

/-- 'dovecotelaw11.TwinRight': WHATEVER THE INPUT: true; the input reads as it did. -/
def twinRightSpec : ChangeSpec := { name := "twinRight", fn := fun _ => fun
  | [d1, d2] => { results := [.lit (.bool true)], args := [d1, d2] }
  | _ => none }
def twinRightRow : OpenClaim := { program := "ytmjjgaldbnhdfaa", sum := "e51fa5c51f33d4f8152e4ddeae1f4d68b38afd9c4cd063fc6e4f822151589d8d", func := "dovecote/dovecotelaw11.TwinRight", spec := "twinRight", unfollowed := true, recurses := true, apart := false }
def TwinRightSaid : Prop := twinRightRow.holds Try.pinned (OpenSpec.ofChange twinRightSpec)

/-- ITS FALSE NEIGHBOUR: 'it returns false'. Refute it at one input. -/
def twinRightWrong : ChangeSpec := { name := "twinRight", fn := fun _ => fun
  | [d1, d2] => { results := [.lit (.bool false)], args := [d1, d2] }
  | _ => none }
def TwinRightWrongFalsely : Prop := twinRightRow.holds Try.pinned (OpenSpec.ofChange twinRightWrong)

/- THE SECOND FORM. 'bulk': how many values and letters a reading holds, each counted each time it is reached (what is shared counts as often as it is met; a slice's spare places count too). A statement '..UptoSaid' is the law's where the arguments, and the package variables that the reading takes, are together of bulk at most 1048576: NARROWER than '..Said'. Prove '..Said' where nothing that the law and all that it calls make is longer than what came in: it says more and counts as full. Else prove '..UptoSaid'. A law counts once. -/
mutual
def uptoBulk {H : Type} : DataW H → Nat
  | .lit (.string bytes) => bytes.length + 1
  | .lit _ => 1
  | .nil => 1
  | .ptr d => uptoBulk d + 1
  | .slice elems spare => uptoBulkAll elems + uptoBulkAll spare + 1
  | .agg parts => uptoBulkAll parts + 1
  | .iface _ d => uptoBulk d + 1
  | .map entries => uptoBulkEntries entries + 1
  | .held _ => 1
def uptoBulkAll {H : Type} : List (DataW H) → Nat
  | [] => 0
  | d :: r => uptoBulk d + uptoBulkAll r
def uptoBulkEntries {H : Type} : List (Lit × DataW H) → Nat
  | [] => 0
  | x :: r => uptoBulkEntry x + uptoBulkEntries r
def uptoBulkEntry {H : Type} : Lit × DataW H → Nat
  | (.string bytes, d) => bytes.length + uptoBulk d + 1
  | (_, d) => uptoBulk d + 1
 end
def uptoSmall : (H : Type) → List (DataW H) → Bool := fun _ ds => decide (uptoBulkAll ds ≤ 1048576)
def OpenSpec.upto (s : _root_.Go.ChangeSpec) : _root_.Go.OpenSpec := { _root_.Go.OpenSpec.ofChange s with cond := some uptoSmall }

/-- 'dovecotelaw11.TwinKeeps', WHERE WHAT IT READS IS OF BULK AT MOST 1048576: true; the input reads as it did. -/
def twinKeepsUptoRow : OpenClaim := { program := "ytmjjgaldbnhdfaa", sum := "e51fa5c51f33d4f8152e4ddeae1f4d68b38afd9c4cd063fc6e4f822151589d8d", func := "dovecote/dovecotelaw11.TwinKeeps", spec := "twinKeeps", unfollowed := true, recurses := true, apart := false, narrowed := true }
def TwinKeepsUptoSaid : Prop := twinKeepsUptoRow.holds Try.pinned (OpenSpec.upto twinKeepsSpec)

/-- 'dovecotelaw11.TwinMany', WHERE WHAT IT READS IS OF BULK AT MOST 1048576: true; the input reads as it did. -/
def twinManyUptoRow : OpenClaim := { program := "ytmjjgaldbnhdfaa", sum := "e51fa5c51f33d4f8152e4ddeae1f4d68b38afd9c4cd063fc6e4f822151589d8d", func := "dovecote/dovecotelaw11.TwinMany", spec := "twinMany", unfollowed := true, recurses := true, apart := false, narrowed := true }
def TwinManyUptoSaid : Prop := twinManyUptoRow.holds Try.pinned (OpenSpec.upto twinManySpec)

/-- 'dovecotelaw11.TwinRefuses', WHERE WHAT IT READS IS OF BULK AT MOST 1048576: true; the input reads as it did. -/
def twinRefusesUptoRow : OpenClaim := { program := "ytmjjgaldbnhdfaa", sum := "e51fa5c51f33d4f8152e4ddeae1f4d68b38afd9c4cd063fc6e4f822151589d8d", func := "dovecote/dovecotelaw11.TwinRefuses", spec := "twinRefuses", unfollowed := true, recurses := true, apart := false, narrowed := true }
def TwinRefusesUptoSaid : Prop := twinRefusesUptoRow.holds Try.pinned (OpenSpec.upto twinRefusesSpec)

/-- 'dovecotelaw11.TwinRight', WHERE WHAT IT READS IS OF BULK AT MOST 1048576: true; the input reads as it did. -/
def twinRightUptoRow : OpenClaim := { program := "ytmjjgaldbnhdfaa", sum := "e51fa5c51f33d4f8152e4ddeae1f4d68b38afd9c4cd063fc6e4f822151589d8d", func := "dovecote/dovecotelaw11.TwinRight", spec := "twinRight", unfollowed := true, recurses := true, apart := false, narrowed := true }
def TwinRightUptoSaid : Prop := twinRightUptoRow.holds Try.pinned (OpenSpec.upto twinRightSpec)

end Rows
end Go.Proofs.Ytmjjgaldbnhdfaa
