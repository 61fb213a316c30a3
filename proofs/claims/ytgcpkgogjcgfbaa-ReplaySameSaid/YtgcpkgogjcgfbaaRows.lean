/-
  No cell of these rows narrows 'for every input' (looked for: loops, veiled, ifaces, maps, wideKeys, modest, calm, conditions, laid).
  DERIVED. THE GIVEN ROWS OF THIS SEAT. 4 by the template 'for every input the law returns true; each argument reads behind the call as it read before'; 0 by the template 'total and deterministic' (their statements: YtgcpkgogjcgfbaaTotals.lean).
  GIVEN WITH THE SEED: the statements are not yours to turn. If you find one false, say at which input.
  Laid BY PROGRAM, IN A SANDBOX (cutbox-rows.mjs): the forced cells as the released guide's own fill.sh prints them over the translation d0d1821bc4395e2e… (all of the seat's roots in one cut). By AI agents, Wed Nov 11 2026. No macro, syntax, notation, axiom, sorry.
-/
import Derived.Test.YtgcpkgogjcgfbaaChecked
import GoSem.Claim
import GoSem.ClaimJoined
import GoSem.ClaimMapViews
import Derived.JoinedTies
import Derived.KernelRfl
namespace Go.Proofs.Ytgcpkgogjcgfbaa
/- THE CELL 'sum', in the pinned program and in every row, IS THE sha256 OF THE DUMP (.gsa) THAT YtgcpkgogjcgfbaaProg.lean LOADS. Nothing in Lean hashes anything: it is a label: what it is worth is what the hold of that sum in a sandbox is worth. -/
noncomputable def Try.pinned : Pinned := { name := "ytgcpkgogjcgfbaa", sum := "d0d1821bc4395e2ecb24b06339c4f68837ade8f06e86bf219402bc2993b28a9d", checked := Try.checked }
namespace Rows
def none {H : Type} : Left H := { results := [], args := [] }

/-- 'dovecotelaw13.ReplayParts': WHATEVER THE INPUT: true; the input reads as it did. -/
def replayPartsSpec : ChangeSpec := { name := "replayParts", fn := fun _ => fun
  | [d1, d2, d3] => { results := [.lit (.bool true)], args := [d1, d2, d3] }
  | _ => none }
def replayPartsRow : OpenClaim := { program := "ytgcpkgogjcgfbaa", sum := "d0d1821bc4395e2ecb24b06339c4f68837ade8f06e86bf219402bc2993b28a9d", func := "dovecote/dovecotelaw13.ReplayParts", spec := "replayParts", unfollowed := true, recurses := true, apart := false }
def ReplayPartsSaid : Prop := replayPartsRow.holds Try.pinned (OpenSpec.ofChange replayPartsSpec)

/-- ITS FALSE NEIGHBOUR: 'it returns false'. Refute it at one input. -/
def replayPartsWrong : ChangeSpec := { name := "replayParts", fn := fun _ => fun
  | [d1, d2, d3] => { results := [.lit (.bool false)], args := [d1, d2, d3] }
  | _ => none }
def ReplayPartsWrongFalsely : Prop := replayPartsRow.holds Try.pinned (OpenSpec.ofChange replayPartsWrong)

/-- 'dovecotelaw13.ReplayNone': WHATEVER THE INPUT: true; the input reads as it did. -/
def replayNoneSpec : ChangeSpec := { name := "replayNone", fn := fun _ => fun
  | [d1, d2] => { results := [.lit (.bool true)], args := [d1, d2] }
  | _ => none }
def replayNoneRow : OpenClaim := { program := "ytgcpkgogjcgfbaa", sum := "d0d1821bc4395e2ecb24b06339c4f68837ade8f06e86bf219402bc2993b28a9d", func := "dovecote/dovecotelaw13.ReplayNone", spec := "replayNone", unfollowed := true, recurses := true, apart := false }
def ReplayNoneSaid : Prop := replayNoneRow.holds Try.pinned (OpenSpec.ofChange replayNoneSpec)

/-- ITS FALSE NEIGHBOUR: 'it returns false'. Refute it at one input. -/
def replayNoneWrong : ChangeSpec := { name := "replayNone", fn := fun _ => fun
  | [d1, d2] => { results := [.lit (.bool false)], args := [d1, d2] }
  | _ => none }
def ReplayNoneWrongFalsely : Prop := replayNoneRow.holds Try.pinned (OpenSpec.ofChange replayNoneWrong)

/-- 'dovecotelaw13.ReplayRight': WHATEVER THE INPUT: true; the input reads as it did. -/
def replayRightSpec : ChangeSpec := { name := "replayRight", fn := fun _ => fun
  | [d1, d2] => { results := [.lit (.bool true)], args := [d1, d2] }
  | _ => none }
def replayRightRow : OpenClaim := { program := "ytgcpkgogjcgfbaa", sum := "d0d1821bc4395e2ecb24b06339c4f68837ade8f06e86bf219402bc2993b28a9d", func := "dovecote/dovecotelaw13.ReplayRight", spec := "replayRight", unfollowed := true, recurses := true, apart := false }
def ReplayRightSaid : Prop := replayRightRow.holds Try.pinned (OpenSpec.ofChange replayRightSpec)

/-- ITS FALSE NEIGHBOUR: 'it returns false'. Refute it at one input. -/
def replayRightWrong : ChangeSpec := { name := "replayRight", fn := fun _ => fun
  | [d1, d2] => { results := [.lit (.bool false)], args := [d1, d2] }
  | _ => none }
def ReplayRightWrongFalsely : Prop := replayRightRow.holds Try.pinned (OpenSpec.ofChange replayRightWrong)

/-- 'dovecotelaw13.ReplaySame': WHATEVER THE INPUT: true; the input reads as it did. -/
def replaySameSpec : ChangeSpec := { name := "replaySame", fn := fun _ => fun
  | [d1, d2] => { results := [.lit (.bool true)], args := [d1, d2] }
  | _ => none }
def replaySameRow : OpenClaim := { program := "ytgcpkgogjcgfbaa", sum := "d0d1821bc4395e2ecb24b06339c4f68837ade8f06e86bf219402bc2993b28a9d", func := "dovecote/dovecotelaw13.ReplaySame", spec := "replaySame", unfollowed := true, recurses := true, apart := false }
def ReplaySameSaid : Prop := replaySameRow.holds Try.pinned (OpenSpec.ofChange replaySameSpec)

/-- ITS FALSE NEIGHBOUR: 'it returns false'. Refute it at one input. -/
def replaySameWrong : ChangeSpec := { name := "replaySame", fn := fun _ => fun
  | [d1, d2] => { results := [.lit (.bool false)], args := [d1, d2] }
  | _ => none }
def ReplaySameWrongFalsely : Prop := replaySameRow.holds Try.pinned (OpenSpec.ofChange replaySameWrong)

/- THE SECOND FORM. 'bulk': how many values and letters a reading holds, each counted each time it is reached (what is shared counts as often as it is met; a slice's spare places count too). A statement '..UptoSaid' is the law's where the arguments, and the package variables that the reading takes, are together of bulk at most 1048576: NARROWER than '..Said'. Prove '..Said' where nothing that the law and all that it calls make is longer than what came in: it says more and counts as full. Else prove '..UptoSaid'. A law counts once. -/
mutual
def uptoBulk {H : Type} : DataW H → Nat
  | .lit (.string bytes) => bytes.length + 1
  | .lit _ => 1
  | .nil => 1
  | .ptr d => uptoBulk d + 1
  | .slice elems spare => uptoBulkAll elems + uptoBulkAll spare + 1
  | .agg parts => uptoBulkAll parts + 1
  | .iface _ d => uptoBulk d + 1
  | .map entries => uptoBulkEntries entries + 1
  | .held _ => 1
def uptoBulkAll {H : Type} : List (DataW H) → Nat
  | [] => 0
  | d :: r => uptoBulk d + uptoBulkAll r
def uptoBulkEntries {H : Type} : List (Lit × DataW H) → Nat
  | [] => 0
  | x :: r => uptoBulkEntry x + uptoBulkEntries r
def uptoBulkEntry {H : Type} : Lit × DataW H → Nat
  | (.string bytes, d) => bytes.length + uptoBulk d + 1
  | (_, d) => uptoBulk d + 1
 end
def uptoSmall : (H : Type) → List (DataW H) → Bool := fun _ ds => decide (uptoBulkAll ds ≤ 1048576)
def OpenSpec.upto (s : _root_.Go.ChangeSpec) : _root_.Go.OpenSpec := { _root_.Go.OpenSpec.ofChange s with cond := some uptoSmall }

/-- 'dovecotelaw13.ReplayParts', WHERE WHAT IT READS IS OF BULK AT MOST 1048576: true; the input reads as it did. -/
def replayPartsUptoRow : OpenClaim := { program := "ytgcpkgogjcgfbaa", sum := "d0d1821bc4395e2ecb24b06339c4f68837ade8f06e86bf219402bc2993b28a9d", func := "dovecote/dovecotelaw13.ReplayParts", spec := "replayParts", unfollowed := true, recurses := true, apart := false, narrowed := true }
def ReplayPartsUptoSaid : Prop := replayPartsUptoRow.holds Try.pinned (OpenSpec.upto replayPartsSpec)

/-- 'dovecotelaw13.ReplayNone', WHERE WHAT IT READS IS OF BULK AT MOST 1048576: true; the input reads as it did. -/
def replayNoneUptoRow : OpenClaim := { program := "ytgcpkgogjcgfbaa", sum := "d0d1821bc4395e2ecb24b06339c4f68837ade8f06e86bf219402bc2993b28a9d", func := "dovecote/dovecotelaw13.ReplayNone", spec := "replayNone", unfollowed := true, recurses := true, apart := false, narrowed := true }
def ReplayNoneUptoSaid : Prop := replayNoneUptoRow.holds Try.pinned (OpenSpec.upto replayNoneSpec)

/-- 'dovecotelaw13.ReplayRight', WHERE WHAT IT READS IS OF BULK AT MOST 1048576: true; the input reads as it did. -/
def replayRightUptoRow : OpenClaim := { program := "ytgcpkgogjcgfbaa", sum := "d0d1821bc4395e2ecb24b06339c4f68837ade8f06e86bf219402bc2993b28a9d", func := "dovecote/dovecotelaw13.ReplayRight", spec := "replayRight", unfollowed := true, recurses := true, apart := false, narrowed := true }
def ReplayRightUptoSaid : Prop := replayRightUptoRow.holds Try.pinned (OpenSpec.upto replayRightSpec)

/-- 'dovecotelaw13.ReplaySame', WHERE WHAT IT READS IS OF BULK AT MOST 1048576: true; the input reads as it did. -/
def replaySameUptoRow : OpenClaim := { program := "ytgcpkgogjcgfbaa", sum := "d0d1821bc4395e2ecb24b06339c4f68837ade8f06e86bf219402bc2993b28a9d", func := "dovecote/dovecotelaw13.ReplaySame", spec := "replaySame", unfollowed := true, recurses := true, apart := false, narrowed := true }
def ReplaySameUptoSaid : Prop := replaySameUptoRow.holds Try.pinned (OpenSpec.upto replaySameSpec)

end Rows
end Go.Proofs.Ytgcpkgogjcgfbaa
