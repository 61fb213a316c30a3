/-
  No cell of these rows narrows 'for every input' (looked for: loops, veiled, ifaces, maps, wideKeys, modest, calm, conditions, laid).
  DERIVED. THE GIVEN ROWS OF THIS SEAT. 7 by the template 'for every input the law returns true; each argument reads behind the call as it read before'; 0 by the template 'total and deterministic' (their statements: YtmdejmdfohgpoaaTotals.lean).
  GIVEN WITH THE SEED: the statements are not yours to turn. If you find one false, say at which input.
  Laid BY PROGRAM, IN A SANDBOX (cutbox-rows.mjs): the forced cells as the released guide's own fill.sh prints them over the translation 1d62e99cb303a08f… (all of the seat's roots in one cut). By AI agents, Wed Nov 11 2026. No macro, syntax, notation, axiom, sorry.
-/
import Derived.Test.YtmdejmdfohgpoaaChecked
import GoSem.Claim
import GoSem.ClaimJoined
import GoSem.ClaimMapViews
import Derived.JoinedTies
import Derived.KernelRfl
namespace Go.Proofs.Ytmdejmdfohgpoaa
/- THE CELL 'sum', in the pinned program and in every row, IS THE sha256 OF THE DUMP (.gsa) THAT YtmdejmdfohgpoaaProg.lean LOADS. Nothing in Lean hashes anything: it is a label: what it is worth is what the hold of that sum in a sandbox is worth. -/
noncomputable def Try.pinned : Pinned := { name := "ytmdejmdfohgpoaa", sum := "1d62e99cb303a08ffaaefd5f8f1bd8da4cfbacc1b77e29290e721e6b6f418268", checked := Try.checked }
namespace Rows
def none {H : Type} : Left H := { results := [], args := [] }

/-- 'dovecotelaw05.ObjectActs': WHATEVER THE INPUT: true; the input reads as it did. -/
def objectActsSpec : ChangeSpec := { name := "objectActs", fn := fun _ => fun
  | [d] => { results := [.lit (.bool true)], args := [d] }
  | _ => none }
def objectActsRow : OpenClaim := { program := "ytmdejmdfohgpoaa", sum := "1d62e99cb303a08ffaaefd5f8f1bd8da4cfbacc1b77e29290e721e6b6f418268", func := "dovecote/dovecotelaw05.ObjectActs", spec := "objectActs", unfollowed := true, recurses := true, apart := false }
def ObjectActsSaid : Prop := objectActsRow.holds Try.pinned (OpenSpec.ofChange objectActsSpec)

/-- ITS FALSE NEIGHBOUR: 'it returns false'. Refute it at one input. -/
def objectActsWrong : ChangeSpec := { name := "objectActs", fn := fun _ => fun
  | [d] => { results := [.lit (.bool false)], args := [d] }
  | _ => none }
def ObjectActsWrongFalsely : Prop := objectActsRow.holds Try.pinned (OpenSpec.ofChange objectActsWrong)

/-- 'dovecotelaw05.ObjectTwins': WHATEVER THE INPUT: true; the input reads as it did. -/
def objectTwinsSpec : ChangeSpec := { name := "objectTwins", fn := fun _ => fun
  | [d] => { results := [.lit (.bool true)], args := [d] }
  | _ => none }
def objectTwinsRow : OpenClaim := { program := "ytmdejmdfohgpoaa", sum := "1d62e99cb303a08ffaaefd5f8f1bd8da4cfbacc1b77e29290e721e6b6f418268", func := "dovecote/dovecotelaw05.ObjectTwins", spec := "objectTwins", unfollowed := true, recurses := true, apart := false }
def ObjectTwinsSaid : Prop := objectTwinsRow.holds Try.pinned (OpenSpec.ofChange objectTwinsSpec)

/-- ITS FALSE NEIGHBOUR: 'it returns false'. Refute it at one input. -/
def objectTwinsWrong : ChangeSpec := { name := "objectTwins", fn := fun _ => fun
  | [d] => { results := [.lit (.bool false)], args := [d] }
  | _ => none }
def ObjectTwinsWrongFalsely : Prop := objectTwinsRow.holds Try.pinned (OpenSpec.ofChange objectTwinsWrong)

/-- 'dovecotelaw05.ObjectNew': WHATEVER THE INPUT: true; the input reads as it did. -/
def objectNewSpec : ChangeSpec := { name := "objectNew", fn := fun _ => fun
  | [d] => { results := [.lit (.bool true)], args := [d] }
  | _ => none }
def objectNewRow : OpenClaim := { program := "ytmdejmdfohgpoaa", sum := "1d62e99cb303a08ffaaefd5f8f1bd8da4cfbacc1b77e29290e721e6b6f418268", func := "dovecote/dovecotelaw05.ObjectNew", spec := "objectNew", unfollowed := true, recurses := true, apart := false }
def ObjectNewSaid : Prop := objectNewRow.holds Try.pinned (OpenSpec.ofChange objectNewSpec)

/-- ITS FALSE NEIGHBOUR: 'it returns false'. Refute it at one input. -/
def objectNewWrong : ChangeSpec := { name := "objectNew", fn := fun _ => fun
  | [d] => { results := [.lit (.bool false)], args := [d] }
  | _ => none }
def ObjectNewWrongFalsely : Prop := objectNewRow.holds Try.pinned (OpenSpec.ofChange objectNewWrong)

/-- 'dovecotelaw05.ObjectFields': WHATEVER THE INPUT: true; the input reads as it did. -/
def objectFieldsSpec : ChangeSpec := { name := "objectFields", fn := fun _ => fun
  | [d] => { results := [.lit (.bool true)], args := [d] }
  | _ => none }
def objectFieldsRow : OpenClaim := { program := "ytmdejmdfohgpoaa", sum := "1d62e99cb303a08ffaaefd5f8f1bd8da4cfbacc1b77e29290e721e6b6f418268", func := "dovecote/dovecotelaw05.ObjectFields", spec := "objectFields", unfollowed := true, recurses := true, apart := false }
def ObjectFieldsSaid : Prop := objectFieldsRow.holds Try.pinned (OpenSpec.ofChange objectFieldsSpec)

/-- ITS FALSE NEIGHBOUR: 'it returns false'. Refute it at one input. -/
def objectFieldsWrong : ChangeSpec := { name := "objectFields", fn := fun _ => fun
  | [d] => { results := [.lit (.bool false)], args := [d] }
  | _ => none }
def ObjectFieldsWrongFalsely : Prop := objectFieldsRow.holds Try.pinned (OpenSpec.ofChange objectFieldsWrong)

/-- 'dovecotelaw05.ObjectFills': WHATEVER THE INPUT: true; the input reads as it did. -/
def objectFillsSpec : ChangeSpec := { name := "objectFills", fn := fun _ => fun
  | [d] => { results := [.lit (.bool true)], args := [d] }
  | _ => none }
def objectFillsRow : OpenClaim := { program := "ytmdejmdfohgpoaa", sum := "1d62e99cb303a08ffaaefd5f8f1bd8da4cfbacc1b77e29290e721e6b6f418268", func := "dovecote/dovecotelaw05.ObjectFills", spec := "objectFills", unfollowed := true, recurses := true, apart := false }
def ObjectFillsSaid : Prop := objectFillsRow.holds Try.pinned (OpenSpec.ofChange objectFillsSpec)

/-- ITS FALSE NEIGHBOUR: 'it returns false'. Refute it at one input. -/
def objectFillsWrong : ChangeSpec := { name := "objectFills", fn := fun _ => fun
  | [d] => { results := [.lit (.bool false)], args := [d] }
  | _ => none }
def ObjectFillsWrongFalsely : Prop := objectFillsRow.holds Try.pinned (OpenSpec.ofChange objectFillsWrong)

/-- 'dovecotelaw05.ObjectOutside': WHATEVER THE INPUT: true; the input reads as it did. -/
def objectOutsideSpec : ChangeSpec := { name := "objectOutside", fn := fun _ => fun
  | [d] => { results := [.lit (.bool true)], args := [d] }
  | _ => none }
def objectOutsideRow : OpenClaim := { program := "ytmdejmdfohgpoaa", sum := "1d62e99cb303a08ffaaefd5f8f1bd8da4cfbacc1b77e29290e721e6b6f418268", func := "dovecote/dovecotelaw05.ObjectOutside", spec := "objectOutside", unfollowed := true, recurses := true, apart := false }
def ObjectOutsideSaid : Prop := objectOutsideRow.holds Try.pinned (OpenSpec.ofChange objectOutsideSpec)

/-- ITS FALSE NEIGHBOUR: 'it returns false'. Refute it at one input. -/
def objectOutsideWrong : ChangeSpec := { name := "objectOutside", fn := fun _ => fun
  | [d] => { results := [.lit (.bool false)], args := [d] }
  | _ => none }
def ObjectOutsideWrongFalsely : Prop := objectOutsideRow.holds Try.pinned (OpenSpec.ofChange objectOutsideWrong)

/-- 'dovecotelaw05.ObjectThere': WHATEVER THE INPUT: true; the input reads as it did. -/
def objectThereSpec : ChangeSpec := { name := "objectThere", fn := fun _ => fun
  | [d1, d2] => { results := [.lit (.bool true)], args := [d1, d2] }
  | _ => none }
def objectThereRow : OpenClaim := { program := "ytmdejmdfohgpoaa", sum := "1d62e99cb303a08ffaaefd5f8f1bd8da4cfbacc1b77e29290e721e6b6f418268", func := "dovecote/dovecotelaw05.ObjectThere", spec := "objectThere", unfollowed := true, recurses := true, apart := false }
def ObjectThereSaid : Prop := objectThereRow.holds Try.pinned (OpenSpec.ofChange objectThereSpec)

/-- ITS FALSE NEIGHBOUR: 'it returns false'. Refute it at one input. -/
def objectThereWrong : ChangeSpec := { name := "objectThere", fn := fun _ => fun
  | [d1, d2] => { results := [.lit (.bool false)], args := [d1, d2] }
  | _ => none }
def ObjectThereWrongFalsely : Prop := objectThereRow.holds Try.pinned (OpenSpec.ofChange objectThereWrong)

/- THE SECOND FORM. 'bulk': how many values and letters a reading holds, each counted each time it is reached (what is shared counts as often as it is met; a slice's spare places count too). A statement '..UptoSaid' is the law's where the arguments, and the package variables that the reading takes, are together of bulk at most 1048576: NARROWER than '..Said'. Prove '..Said' where nothing that the law and all that it calls make is longer than what came in: it says more and counts as full. Else prove '..UptoSaid'. A law counts once. -/
mutual
def uptoBulk {H : Type} : DataW H → Nat
  | .lit (.string bytes) => bytes.length + 1
  | .lit _ => 1
  | .nil => 1
  | .ptr d => uptoBulk d + 1
  | .slice elems spare => uptoBulkAll elems + uptoBulkAll spare + 1
  | .agg parts => uptoBulkAll parts + 1
  | .iface _ d => uptoBulk d + 1
  | .map entries => uptoBulkEntries entries + 1
  | .held _ => 1
def uptoBulkAll {H : Type} : List (DataW H) → Nat
  | [] => 0
  | d :: r => uptoBulk d + uptoBulkAll r
def uptoBulkEntries {H : Type} : List (Lit × DataW H) → Nat
  | [] => 0
  | x :: r => uptoBulkEntry x + uptoBulkEntries r
def uptoBulkEntry {H : Type} : Lit × DataW H → Nat
  | (.string bytes, d) => bytes.length + uptoBulk d + 1
  | (_, d) => uptoBulk d + 1
 end
def uptoSmall : (H : Type) → List (DataW H) → Bool := fun _ ds => decide (uptoBulkAll ds ≤ 1048576)
def OpenSpec.upto (s : _root_.Go.ChangeSpec) : _root_.Go.OpenSpec := { _root_.Go.OpenSpec.ofChange s with cond := some uptoSmall }

/-- 'dovecotelaw05.ObjectActs', WHERE WHAT IT READS IS OF BULK AT MOST 1048576: true; the input reads as it did. -/
def objectActsUptoRow : OpenClaim := { program := "ytmdejmdfohgpoaa", sum := "1d62e99cb303a08ffaaefd5f8f1bd8da4cfbacc1b77e29290e721e6b6f418268", func := "dovecote/dovecotelaw05.ObjectActs", spec := "objectActs", unfollowed := true, recurses := true, apart := false, narrowed := true }
def ObjectActsUptoSaid : Prop := objectActsUptoRow.holds Try.pinned (OpenSpec.upto objectActsSpec)

/-- 'dovecotelaw05.ObjectTwins', WHERE WHAT IT READS IS OF BULK AT MOST 1048576: true; the input reads as it did. -/
def objectTwinsUptoRow : OpenClaim := { program := "ytmdejmdfohgpoaa", sum := "1d62e99cb303a08ffaaefd5f8f1bd8da4cfbacc1b77e29290e721e6b6f418268", func := "dovecote/dovecotelaw05.ObjectTwins", spec := "objectTwins", unfollowed := true, recurses := true, apart := false, narrowed := true }
def ObjectTwinsUptoSaid : Prop := objectTwinsUptoRow.holds Try.pinned (OpenSpec.upto objectTwinsSpec)

/-- 'dovecotelaw05.ObjectNew', WHERE WHAT IT READS IS OF BULK AT MOST 1048576: true; the input reads as it did. -/
def objectNewUptoRow : OpenClaim := { program := "ytmdejmdfohgpoaa", sum := "1d62e99cb303a08ffaaefd5f8f1bd8da4cfbacc1b77e29290e721e6b6f418268", func := "dovecote/dovecotelaw05.ObjectNew", spec := "objectNew", unfollowed := true, recurses := true, apart := false, narrowed := true }
def ObjectNewUptoSaid : Prop := objectNewUptoRow.holds Try.pinned (OpenSpec.upto objectNewSpec)

/-- 'dovecotelaw05.ObjectFields', WHERE WHAT IT READS IS OF BULK AT MOST 1048576: true; the input reads as it did. -/
def objectFieldsUptoRow : OpenClaim := { program := "ytmdejmdfohgpoaa", sum := "1d62e99cb303a08ffaaefd5f8f1bd8da4cfbacc1b77e29290e721e6b6f418268", func := "dovecote/dovecotelaw05.ObjectFields", spec := "objectFields", unfollowed := true, recurses := true, apart := false, narrowed := true }
def ObjectFieldsUptoSaid : Prop := objectFieldsUptoRow.holds Try.pinned (OpenSpec.upto objectFieldsSpec)

/-- 'dovecotelaw05.ObjectFills', WHERE WHAT IT READS IS OF BULK AT MOST 1048576: true; the input reads as it did. -/
def objectFillsUptoRow : OpenClaim := { program := "ytmdejmdfohgpoaa", sum := "1d62e99cb303a08ffaaefd5f8f1bd8da4cfbacc1b77e29290e721e6b6f418268", func := "dovecote/dovecotelaw05.ObjectFills", spec := "objectFills", unfollowed := true, recurses := true, apart := false, narrowed := true }
def ObjectFillsUptoSaid : Prop := objectFillsUptoRow.holds Try.pinned (OpenSpec.upto objectFillsSpec)

/-- 'dovecotelaw05.ObjectOutside', WHERE WHAT IT READS IS OF BULK AT MOST 1048576: true; the input reads as it did. -/
def objectOutsideUptoRow : OpenClaim := { program := "ytmdejmdfohgpoaa", sum := "1d62e99cb303a08ffaaefd5f8f1bd8da4cfbacc1b77e29290e721e6b6f418268", func := "dovecote/dovecotelaw05.ObjectOutside", spec := "objectOutside", unfollowed := true, recurses := true, apart := false, narrowed := true }
def ObjectOutsideUptoSaid : Prop := objectOutsideUptoRow.holds Try.pinned (OpenSpec.upto objectOutsideSpec)

/-- 'dovecotelaw05.ObjectThere', WHERE WHAT IT READS IS OF BULK AT MOST 1048576: true; the input reads as it did. -/
def objectThereUptoRow : OpenClaim := { program := "ytmdejmdfohgpoaa", sum := "1d62e99cb303a08ffaaefd5f8f1bd8da4cfbacc1b77e29290e721e6b6f418268", func := "dovecote/dovecotelaw05.ObjectThere", spec := "objectThere", unfollowed := true, recurses := true, apart := false, narrowed := true }
def ObjectThereUptoSaid : Prop := objectThereUptoRow.holds Try.pinned (OpenSpec.upto objectThereSpec)

end Rows
end Go.Proofs.Ytmdejmdfohgpoaa
