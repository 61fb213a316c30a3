/-
  No cell of these rows narrows 'for every input' (looked for: loops, veiled, ifaces, maps, wideKeys, modest, calm, conditions, laid).
  DERIVED. THE GIVEN ROWS OF THIS SEAT. 5 by the template 'for every input the law returns true; each argument reads behind the call as it read before'; 0 by the template 'total and deterministic' (their statements: YtanhhkdoejnpiaaGreatTotals.lean).
  GIVEN WITH THE SEED: the statements are not yours to turn. If you find one false, say at which input.
  Laid BY PROGRAM, IN A SANDBOX (cutbox-rows.mjs): the forced cells as the released guide's own fill.sh prints them over the translation 2f3a6b00ed01bb89… (all of the seat's roots in one cut). By AI agents, Wed Nov 11 2026. No macro, syntax, notation, axiom, sorry.
-/
import Derived.Test.YtanhhkdoejnpiaaGreatChecked
import GoSem.Claim
import GoSem.ClaimJoined
import GoSem.ClaimMapViews
import Derived.JoinedTies
import Derived.KernelRfl
namespace Go.Proofs.YtanhhkdoejnpiaaGreat
/- THE CELL 'sum', in the pinned program and in every row, IS THE sha256 OF THE DUMP (.gsa) THAT YtanhhkdoejnpiaaGreatProg.lean LOADS. Nothing in Lean hashes anything: it is a label: what it is worth is what the hold of that sum in a sandbox is worth. -/
noncomputable def Tryz.pinned : Pinned := { name := "ytanhhkdoejnpiaagreat", sum := "2f3a6b00ed01bb893cd182268af2cb409c7dc8832378ff77f0a53240c6ccf070", checked := Tryz.checked }
namespace Rows
def none {H : Type} : Left H := { results := [], args := [] }

/-- 'dovecotelaw16.ViewTells': WHATEVER THE INPUT: true; the input reads as it did. -/
def viewTellsSpec : ChangeSpec := { name := "viewTells", fn := fun _ => fun
  | [d] => { results := [.lit (.bool true)], args := [d] }
  | _ => none }
def viewTellsRow : OpenClaim := { program := "ytanhhkdoejnpiaagreat", sum := "2f3a6b00ed01bb893cd182268af2cb409c7dc8832378ff77f0a53240c6ccf070", func := "dovecote/dovecotelaw16.ViewTells", spec := "viewTells", unfollowed := true, recurses := true, apart := false }
def ViewTellsSaid : Prop := viewTellsRow.holds Tryz.pinned (OpenSpec.ofChange viewTellsSpec)

/-- ITS FALSE NEIGHBOUR: 'it returns false'. Refute it at one input. -/
def viewTellsWrong : ChangeSpec := { name := "viewTells", fn := fun _ => fun
  | [d] => { results := [.lit (.bool false)], args := [d] }
  | _ => none }
def ViewTellsWrongFalsely : Prop := viewTellsRow.holds Tryz.pinned (OpenSpec.ofChange viewTellsWrong)

/-- 'dovecotelaw16.ViewBack': WHATEVER THE INPUT: true; the input reads as it did. -/
def viewBackSpec : ChangeSpec := { name := "viewBack", fn := fun _ => fun
  | [d1, d2, d3] => { results := [.lit (.bool true)], args := [d1, d2, d3] }
  | _ => none }
def viewBackRow : OpenClaim := { program := "ytanhhkdoejnpiaagreat", sum := "2f3a6b00ed01bb893cd182268af2cb409c7dc8832378ff77f0a53240c6ccf070", func := "dovecote/dovecotelaw16.ViewBack", spec := "viewBack", unfollowed := true, recurses := true, apart := false }
def ViewBackSaid : Prop := viewBackRow.holds Tryz.pinned (OpenSpec.ofChange viewBackSpec)

/-- ITS FALSE NEIGHBOUR: 'it returns false'. Refute it at one input. -/
def viewBackWrong : ChangeSpec := { name := "viewBack", fn := fun _ => fun
  | [d1, d2, d3] => { results := [.lit (.bool false)], args := [d1, d2, d3] }
  | _ => none }
def ViewBackWrongFalsely : Prop := viewBackRow.holds Tryz.pinned (OpenSpec.ofChange viewBackWrong)

/-- 'dovecotelaw16.ViewFlip': WHATEVER THE INPUT: true; the input reads as it did. -/
def viewFlipSpec : ChangeSpec := { name := "viewFlip", fn := fun _ => fun
  | [d1, d2] => { results := [.lit (.bool true)], args := [d1, d2] }
  | _ => none }
def viewFlipRow : OpenClaim := { program := "ytanhhkdoejnpiaagreat", sum := "2f3a6b00ed01bb893cd182268af2cb409c7dc8832378ff77f0a53240c6ccf070", func := "dovecote/dovecotelaw16.ViewFlip", spec := "viewFlip", unfollowed := true, recurses := true, apart := false }
def ViewFlipSaid : Prop := viewFlipRow.holds Tryz.pinned (OpenSpec.ofChange viewFlipSpec)

/-- ITS FALSE NEIGHBOUR: 'it returns false'. Refute it at one input. -/
def viewFlipWrong : ChangeSpec := { name := "viewFlip", fn := fun _ => fun
  | [d1, d2] => { results := [.lit (.bool false)], args := [d1, d2] }
  | _ => none }
def ViewFlipWrongFalsely : Prop := viewFlipRow.holds Tryz.pinned (OpenSpec.ofChange viewFlipWrong)

/-- 'dovecotelaw16.ViewNodes': WHATEVER THE INPUT: true; the input reads as it did. -/
def viewNodesSpec : ChangeSpec := { name := "viewNodes", fn := fun _ => fun
  | [d1, d2] => { results := [.lit (.bool true)], args := [d1, d2] }
  | _ => none }
def viewNodesRow : OpenClaim := { program := "ytanhhkdoejnpiaagreat", sum := "2f3a6b00ed01bb893cd182268af2cb409c7dc8832378ff77f0a53240c6ccf070", func := "dovecote/dovecotelaw16.ViewNodes", spec := "viewNodes", unfollowed := true, recurses := true, apart := false }
def ViewNodesSaid : Prop := viewNodesRow.holds Tryz.pinned (OpenSpec.ofChange viewNodesSpec)

/-- ITS FALSE NEIGHBOUR: 'it returns false'. Refute it at one input. -/
def viewNodesWrong : ChangeSpec := { name := "viewNodes", fn := fun _ => fun
  | [d1, d2] => { results := [.lit (.bool false)], args := [d1, d2] }
  | _ => none }
def ViewNodesWrongFalsely : Prop := viewNodesRow.holds Tryz.pinned (OpenSpec.ofChange viewNodesWrong)

/-- 'dovecotelaw16.ViewDiffers': WHATEVER THE INPUT: true; the input reads as it did. -/
def viewDiffersSpec : ChangeSpec := { name := "viewDiffers", fn := fun _ => fun
  | [d1, d2, d3] => { results := [.lit (.bool true)], args := [d1, d2, d3] }
  | _ => none }
def viewDiffersRow : OpenClaim := { program := "ytanhhkdoejnpiaagreat", sum := "2f3a6b00ed01bb893cd182268af2cb409c7dc8832378ff77f0a53240c6ccf070", func := "dovecote/dovecotelaw16.ViewDiffers", spec := "viewDiffers", unfollowed := true, recurses := true, apart := false }
def ViewDiffersSaid : Prop := viewDiffersRow.holds Tryz.pinned (OpenSpec.ofChange viewDiffersSpec)

/-- ITS FALSE NEIGHBOUR: 'it returns false'. Refute it at one input. -/
def viewDiffersWrong : ChangeSpec := { name := "viewDiffers", fn := fun _ => fun
  | [d1, d2, d3] => { results := [.lit (.bool false)], args := [d1, d2, d3] }
  | _ => none }
def ViewDiffersWrongFalsely : Prop := viewDiffersRow.holds Tryz.pinned (OpenSpec.ofChange viewDiffersWrong)

/- THE SECOND FORM. 'bulk': how many values and letters a reading holds, each counted each time it is reached (what is shared counts as often as it is met; a slice's spare places count too). A statement '..UptoSaid' is the law's where the arguments, and the package variables that the reading takes, are together of bulk at most 1048576: NARROWER than '..Said'. Prove '..Said' where nothing that the law and all that it calls make is longer than what came in: it says more and counts as full. Else prove '..UptoSaid'. A law counts once. -/
mutual
def uptoBulk {H : Type} : DataW H → Nat
  | .lit (.string bytes) => bytes.length + 1
  | .lit _ => 1
  | .nil => 1
  | .ptr d => uptoBulk d + 1
  | .slice elems spare => uptoBulkAll elems + uptoBulkAll spare + 1
  | .agg parts => uptoBulkAll parts + 1
  | .iface _ d => uptoBulk d + 1
  | .map entries => uptoBulkEntries entries + 1
  | .held _ => 1
def uptoBulkAll {H : Type} : List (DataW H) → Nat
  | [] => 0
  | d :: r => uptoBulk d + uptoBulkAll r
def uptoBulkEntries {H : Type} : List (Lit × DataW H) → Nat
  | [] => 0
  | x :: r => uptoBulkEntry x + uptoBulkEntries r
def uptoBulkEntry {H : Type} : Lit × DataW H → Nat
  | (.string bytes, d) => bytes.length + uptoBulk d + 1
  | (_, d) => uptoBulk d + 1
 end
def uptoSmall : (H : Type) → List (DataW H) → Bool := fun _ ds => decide (uptoBulkAll ds ≤ 1048576)
def OpenSpec.upto (s : _root_.Go.ChangeSpec) : _root_.Go.OpenSpec := { _root_.Go.OpenSpec.ofChange s with cond := some uptoSmall }

/-- 'dovecotelaw16.ViewTells', WHERE WHAT IT READS IS OF BULK AT MOST 1048576: true; the input reads as it did. -/
def viewTellsUptoRow : OpenClaim := { program := "ytanhhkdoejnpiaagreat", sum := "2f3a6b00ed01bb893cd182268af2cb409c7dc8832378ff77f0a53240c6ccf070", func := "dovecote/dovecotelaw16.ViewTells", spec := "viewTells", unfollowed := true, recurses := true, apart := false, narrowed := true }
def ViewTellsUptoSaid : Prop := viewTellsUptoRow.holds Tryz.pinned (OpenSpec.upto viewTellsSpec)

/-- 'dovecotelaw16.ViewBack', WHERE WHAT IT READS IS OF BULK AT MOST 1048576: true; the input reads as it did. -/
def viewBackUptoRow : OpenClaim := { program := "ytanhhkdoejnpiaagreat", sum := "2f3a6b00ed01bb893cd182268af2cb409c7dc8832378ff77f0a53240c6ccf070", func := "dovecote/dovecotelaw16.ViewBack", spec := "viewBack", unfollowed := true, recurses := true, apart := false, narrowed := true }
def ViewBackUptoSaid : Prop := viewBackUptoRow.holds Tryz.pinned (OpenSpec.upto viewBackSpec)

/-- 'dovecotelaw16.ViewFlip', WHERE WHAT IT READS IS OF BULK AT MOST 1048576: true; the input reads as it did. -/
def viewFlipUptoRow : OpenClaim := { program := "ytanhhkdoejnpiaagreat", sum := "2f3a6b00ed01bb893cd182268af2cb409c7dc8832378ff77f0a53240c6ccf070", func := "dovecote/dovecotelaw16.ViewFlip", spec := "viewFlip", unfollowed := true, recurses := true, apart := false, narrowed := true }
def ViewFlipUptoSaid : Prop := viewFlipUptoRow.holds Tryz.pinned (OpenSpec.upto viewFlipSpec)

/-- 'dovecotelaw16.ViewNodes', WHERE WHAT IT READS IS OF BULK AT MOST 1048576: true; the input reads as it did. -/
def viewNodesUptoRow : OpenClaim := { program := "ytanhhkdoejnpiaagreat", sum := "2f3a6b00ed01bb893cd182268af2cb409c7dc8832378ff77f0a53240c6ccf070", func := "dovecote/dovecotelaw16.ViewNodes", spec := "viewNodes", unfollowed := true, recurses := true, apart := false, narrowed := true }
def ViewNodesUptoSaid : Prop := viewNodesUptoRow.holds Tryz.pinned (OpenSpec.upto viewNodesSpec)

/-- 'dovecotelaw16.ViewDiffers', WHERE WHAT IT READS IS OF BULK AT MOST 1048576: true; the input reads as it did. -/
def viewDiffersUptoRow : OpenClaim := { program := "ytanhhkdoejnpiaagreat", sum := "2f3a6b00ed01bb893cd182268af2cb409c7dc8832378ff77f0a53240c6ccf070", func := "dovecote/dovecotelaw16.ViewDiffers", spec := "viewDiffers", unfollowed := true, recurses := true, apart := false, narrowed := true }
def ViewDiffersUptoSaid : Prop := viewDiffersUptoRow.holds Tryz.pinned (OpenSpec.upto viewDiffersSpec)

end Rows
end Go.Proofs.YtanhhkdoejnpiaaGreat
