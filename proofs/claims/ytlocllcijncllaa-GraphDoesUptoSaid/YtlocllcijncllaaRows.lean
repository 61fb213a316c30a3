/-
  No cell of these rows narrows 'for every input' (looked for: loops, veiled, ifaces, maps, wideKeys, modest, calm, conditions, laid).
  DERIVED. THE GIVEN ROWS OF THIS SEAT. 8 by the template 'for every input the law returns true; each argument reads behind the call as it read before'; 0 by the template 'total and deterministic' (their statements: YtlocllcijncllaaTotals.lean).
  GIVEN WITH THE SEED: the statements are not yours to turn. If you find one false, say at which input.
  Laid BY PROGRAM, IN A SANDBOX (cutbox-rows.mjs): the forced cells as the released guide's own fill.sh prints them over the translation 3db2ba0c6b82cd4f… (all of the seat's roots in one cut). By AI agents, Wed Nov 11 2026. No macro, syntax, notation, axiom, sorry.
-/
import Derived.Test.YtlocllcijncllaaChecked
import GoSem.Claim
import GoSem.ClaimJoined
import GoSem.ClaimMapViews
import Derived.JoinedTies
import Derived.KernelRfl
namespace Go.Proofs.Ytlocllcijncllaa
/- THE CELL 'sum', in the pinned program and in every row, IS THE sha256 OF THE DUMP (.gsa) THAT YtlocllcijncllaaProg.lean LOADS. Nothing in Lean hashes anything: it is a label: what it is worth is what the hold of that sum in a sandbox is worth. -/
noncomputable def Try.pinned : Pinned := { name := "ytlocllcijncllaa", sum := "3db2ba0c6b82cd4fb8de4539652c5d5c8dc038c3d827f2f07e58ae55c64ba7c8", checked := Try.checked }
namespace Rows
def none {H : Type} : Left H := { results := [], args := [] }

/-- 'dovecotelaw15.GraphDoes': WHATEVER THE INPUT: true; the input reads as it did. -/
def graphDoesSpec : ChangeSpec := { name := "graphDoes", fn := fun _ => fun
  | [d] => { results := [.lit (.bool true)], args := [d] }
  | _ => none }
def graphDoesRow : OpenClaim := { program := "ytlocllcijncllaa", sum := "3db2ba0c6b82cd4fb8de4539652c5d5c8dc038c3d827f2f07e58ae55c64ba7c8", func := "dovecote/dovecotelaw15.GraphDoes", spec := "graphDoes", unfollowed := true, recurses := true, apart := false }
def GraphDoesSaid : Prop := graphDoesRow.holds Try.pinned (OpenSpec.ofChange graphDoesSpec)

/-- ITS FALSE NEIGHBOUR: 'it returns false'. Refute it at one input. -/
def graphDoesWrong : ChangeSpec := { name := "graphDoes", fn := fun _ => fun
  | [d] => { results := [.lit (.bool false)], args := [d] }
  | _ => none }
def GraphDoesWrongFalsely : Prop := graphDoesRow.holds Try.pinned (OpenSpec.ofChange graphDoesWrong)

/-- 'dovecotelaw15.GraphStays': WHATEVER THE INPUT: true; the input reads as it did. -/
def graphStaysSpec : ChangeSpec := { name := "graphStays", fn := fun _ => fun
  | [d1, d2, d3] => { results := [.lit (.bool true)], args := [d1, d2, d3] }
  | _ => none }
def graphStaysRow : OpenClaim := { program := "ytlocllcijncllaa", sum := "3db2ba0c6b82cd4fb8de4539652c5d5c8dc038c3d827f2f07e58ae55c64ba7c8", func := "dovecote/dovecotelaw15.GraphStays", spec := "graphStays", unfollowed := true, recurses := true, apart := false }
def GraphStaysSaid : Prop := graphStaysRow.holds Try.pinned (OpenSpec.ofChange graphStaysSpec)

/-- ITS FALSE NEIGHBOUR: 'it returns false'. Refute it at one input. -/
def graphStaysWrong : ChangeSpec := { name := "graphStays", fn := fun _ => fun
  | [d1, d2, d3] => { results := [.lit (.bool false)], args := [d1, d2, d3] }
  | _ => none }
def GraphStaysWrongFalsely : Prop := graphStaysRow.holds Try.pinned (OpenSpec.ofChange graphStaysWrong)

/-- 'dovecotelaw15.GraphCanon': WHATEVER THE INPUT: true; the input reads as it did. -/
def graphCanonSpec : ChangeSpec := { name := "graphCanon", fn := fun _ => fun
  | [d1, d2, d3] => { results := [.lit (.bool true)], args := [d1, d2, d3] }
  | _ => none }
def graphCanonRow : OpenClaim := { program := "ytlocllcijncllaa", sum := "3db2ba0c6b82cd4fb8de4539652c5d5c8dc038c3d827f2f07e58ae55c64ba7c8", func := "dovecote/dovecotelaw15.GraphCanon", spec := "graphCanon", unfollowed := true, recurses := true, apart := false }
def GraphCanonSaid : Prop := graphCanonRow.holds Try.pinned (OpenSpec.ofChange graphCanonSpec)

/-- ITS FALSE NEIGHBOUR: 'it returns false'. Refute it at one input. -/
def graphCanonWrong : ChangeSpec := { name := "graphCanon", fn := fun _ => fun
  | [d1, d2, d3] => { results := [.lit (.bool false)], args := [d1, d2, d3] }
  | _ => none }
def GraphCanonWrongFalsely : Prop := graphCanonRow.holds Try.pinned (OpenSpec.ofChange graphCanonWrong)

/-- 'dovecotelaw15.GraphThreads': WHATEVER THE INPUT: true; the input reads as it did. -/
def graphThreadsSpec : ChangeSpec := { name := "graphThreads", fn := fun _ => fun
  | [d] => { results := [.lit (.bool true)], args := [d] }
  | _ => none }
def graphThreadsRow : OpenClaim := { program := "ytlocllcijncllaa", sum := "3db2ba0c6b82cd4fb8de4539652c5d5c8dc038c3d827f2f07e58ae55c64ba7c8", func := "dovecote/dovecotelaw15.GraphThreads", spec := "graphThreads", unfollowed := true, recurses := true, apart := false }
def GraphThreadsSaid : Prop := graphThreadsRow.holds Try.pinned (OpenSpec.ofChange graphThreadsSpec)

/-- ITS FALSE NEIGHBOUR: 'it returns false'. Refute it at one input. -/
def graphThreadsWrong : ChangeSpec := { name := "graphThreads", fn := fun _ => fun
  | [d] => { results := [.lit (.bool false)], args := [d] }
  | _ => none }
def GraphThreadsWrongFalsely : Prop := graphThreadsRow.holds Try.pinned (OpenSpec.ofChange graphThreadsWrong)

/-- 'dovecotelaw15.GraphWrites': WHATEVER THE INPUT: true; the input reads as it did. -/
def graphWritesSpec : ChangeSpec := { name := "graphWrites", fn := fun _ => fun
  | [d] => { results := [.lit (.bool true)], args := [d] }
  | _ => none }
def graphWritesRow : OpenClaim := { program := "ytlocllcijncllaa", sum := "3db2ba0c6b82cd4fb8de4539652c5d5c8dc038c3d827f2f07e58ae55c64ba7c8", func := "dovecote/dovecotelaw15.GraphWrites", spec := "graphWrites", unfollowed := true, recurses := true, apart := false }
def GraphWritesSaid : Prop := graphWritesRow.holds Try.pinned (OpenSpec.ofChange graphWritesSpec)

/-- ITS FALSE NEIGHBOUR: 'it returns false'. Refute it at one input. -/
def graphWritesWrong : ChangeSpec := { name := "graphWrites", fn := fun _ => fun
  | [d] => { results := [.lit (.bool false)], args := [d] }
  | _ => none }
def GraphWritesWrongFalsely : Prop := graphWritesRow.holds Try.pinned (OpenSpec.ofChange graphWritesWrong)

/-- 'dovecotelaw15.GraphPops': WHATEVER THE INPUT: true; the input reads as it did. -/
def graphPopsSpec : ChangeSpec := { name := "graphPops", fn := fun _ => fun
  | [d1, d2, d3] => { results := [.lit (.bool true)], args := [d1, d2, d3] }
  | _ => none }
def graphPopsRow : OpenClaim := { program := "ytlocllcijncllaa", sum := "3db2ba0c6b82cd4fb8de4539652c5d5c8dc038c3d827f2f07e58ae55c64ba7c8", func := "dovecote/dovecotelaw15.GraphPops", spec := "graphPops", unfollowed := true, recurses := true, apart := false }
def GraphPopsSaid : Prop := graphPopsRow.holds Try.pinned (OpenSpec.ofChange graphPopsSpec)

/-- ITS FALSE NEIGHBOUR: 'it returns false'. Refute it at one input. -/
def graphPopsWrong : ChangeSpec := { name := "graphPops", fn := fun _ => fun
  | [d1, d2, d3] => { results := [.lit (.bool false)], args := [d1, d2, d3] }
  | _ => none }
def GraphPopsWrongFalsely : Prop := graphPopsRow.holds Try.pinned (OpenSpec.ofChange graphPopsWrong)

/-- 'dovecotelaw15.GraphLinks': WHATEVER THE INPUT: true; the input reads as it did. -/
def graphLinksSpec : ChangeSpec := { name := "graphLinks", fn := fun _ => fun
  | [d] => { results := [.lit (.bool true)], args := [d] }
  | _ => none }
def graphLinksRow : OpenClaim := { program := "ytlocllcijncllaa", sum := "3db2ba0c6b82cd4fb8de4539652c5d5c8dc038c3d827f2f07e58ae55c64ba7c8", func := "dovecote/dovecotelaw15.GraphLinks", spec := "graphLinks", unfollowed := true, recurses := true, apart := false }
def GraphLinksSaid : Prop := graphLinksRow.holds Try.pinned (OpenSpec.ofChange graphLinksSpec)

/-- ITS FALSE NEIGHBOUR: 'it returns false'. Refute it at one input. -/
def graphLinksWrong : ChangeSpec := { name := "graphLinks", fn := fun _ => fun
  | [d] => { results := [.lit (.bool false)], args := [d] }
  | _ => none }
def GraphLinksWrongFalsely : Prop := graphLinksRow.holds Try.pinned (OpenSpec.ofChange graphLinksWrong)

/-- 'dovecotelaw15.GraphFresh': WHATEVER THE INPUT: true; the input reads as it did. -/
def graphFreshSpec : ChangeSpec := { name := "graphFresh", fn := fun _ => fun
  | [d] => { results := [.lit (.bool true)], args := [d] }
  | _ => none }
def graphFreshRow : OpenClaim := { program := "ytlocllcijncllaa", sum := "3db2ba0c6b82cd4fb8de4539652c5d5c8dc038c3d827f2f07e58ae55c64ba7c8", func := "dovecote/dovecotelaw15.GraphFresh", spec := "graphFresh", unfollowed := true, recurses := true, apart := false }
def GraphFreshSaid : Prop := graphFreshRow.holds Try.pinned (OpenSpec.ofChange graphFreshSpec)

/-- ITS FALSE NEIGHBOUR: 'it returns false'. Refute it at one input. -/
def graphFreshWrong : ChangeSpec := { name := "graphFresh", fn := fun _ => fun
  | [d] => { results := [.lit (.bool false)], args := [d] }
  | _ => none }
def GraphFreshWrongFalsely : Prop := graphFreshRow.holds Try.pinned (OpenSpec.ofChange graphFreshWrong)

/- THE SECOND FORM. 'bulk': how many values and letters a reading holds, each counted each time it is reached (what is shared counts as often as it is met; a slice's spare places count too). A statement '..UptoSaid' is the law's where the arguments, and the package variables that the reading takes, are together of bulk at most 1048576: NARROWER than '..Said'. Prove '..Said' where nothing that the law and all that it calls make is longer than what came in: it says more and counts as full. Else prove '..UptoSaid'. A law counts once. -/
mutual
def uptoBulk {H : Type} : DataW H → Nat
  | .lit (.string bytes) => bytes.length + 1
  | .lit _ => 1
  | .nil => 1
  | .ptr d => uptoBulk d + 1
  | .slice elems spare => uptoBulkAll elems + uptoBulkAll spare + 1
  | .agg parts => uptoBulkAll parts + 1
  | .iface _ d => uptoBulk d + 1
  | .map entries => uptoBulkEntries entries + 1
  | .held _ => 1
def uptoBulkAll {H : Type} : List (DataW H) → Nat
  | [] => 0
  | d :: r => uptoBulk d + uptoBulkAll r
def uptoBulkEntries {H : Type} : List (Lit × DataW H) → Nat
  | [] => 0
  | x :: r => uptoBulkEntry x + uptoBulkEntries r
def uptoBulkEntry {H : Type} : Lit × DataW H → Nat
  | (.string bytes, d) => bytes.length + uptoBulk d + 1
  | (_, d) => uptoBulk d + 1
 end
def uptoSmall : (H : Type) → List (DataW H) → Bool := fun _ ds => decide (uptoBulkAll ds ≤ 1048576)
def OpenSpec.upto (s : _root_.Go.ChangeSpec) : _root_.Go.OpenSpec := { _root_.Go.OpenSpec.ofChange s with cond := some uptoSmall }

/-- 'dovecotelaw15.GraphDoes', WHERE WHAT IT READS IS OF BULK AT MOST 1048576: true; the input reads as it did. -/
def graphDoesUptoRow : OpenClaim := { program := "ytlocllcijncllaa", sum := "3db2ba0c6b82cd4fb8de4539652c5d5c8dc038c3d827f2f07e58ae55c64ba7c8", func := "dovecote/dovecotelaw15.GraphDoes", spec := "graphDoes", unfollowed := true, recurses := true, apart := false, narrowed := true }
def GraphDoesUptoSaid : Prop := graphDoesUptoRow.holds Try.pinned (OpenSpec.upto graphDoesSpec)

/-- 'dovecotelaw15.GraphStays', WHERE WHAT IT READS IS OF BULK AT MOST 1048576: true; the input reads as it did. -/
def graphStaysUptoRow : OpenClaim := { program := "ytlocllcijncllaa", sum := "3db2ba0c6b82cd4fb8de4539652c5d5c8dc038c3d827f2f07e58ae55c64ba7c8", func := "dovecote/dovecotelaw15.GraphStays", spec := "graphStays", unfollowed := true, recurses := true, apart := false, narrowed := true }
def GraphStaysUptoSaid : Prop := graphStaysUptoRow.holds Try.pinned (OpenSpec.upto graphStaysSpec)

/-- 'dovecotelaw15.GraphCanon', WHERE WHAT IT READS IS OF BULK AT MOST 1048576: true; the input reads as it did. -/
def graphCanonUptoRow : OpenClaim := { program := "ytlocllcijncllaa", sum := "3db2ba0c6b82cd4fb8de4539652c5d5c8dc038c3d827f2f07e58ae55c64ba7c8", func := "dovecote/dovecotelaw15.GraphCanon", spec := "graphCanon", unfollowed := true, recurses := true, apart := false, narrowed := true }
def GraphCanonUptoSaid : Prop := graphCanonUptoRow.holds Try.pinned (OpenSpec.upto graphCanonSpec)

/-- 'dovecotelaw15.GraphThreads', WHERE WHAT IT READS IS OF BULK AT MOST 1048576: true; the input reads as it did. -/
def graphThreadsUptoRow : OpenClaim := { program := "ytlocllcijncllaa", sum := "3db2ba0c6b82cd4fb8de4539652c5d5c8dc038c3d827f2f07e58ae55c64ba7c8", func := "dovecote/dovecotelaw15.GraphThreads", spec := "graphThreads", unfollowed := true, recurses := true, apart := false, narrowed := true }
def GraphThreadsUptoSaid : Prop := graphThreadsUptoRow.holds Try.pinned (OpenSpec.upto graphThreadsSpec)

/-- 'dovecotelaw15.GraphWrites', WHERE WHAT IT READS IS OF BULK AT MOST 1048576: true; the input reads as it did. -/
def graphWritesUptoRow : OpenClaim := { program := "ytlocllcijncllaa", sum := "3db2ba0c6b82cd4fb8de4539652c5d5c8dc038c3d827f2f07e58ae55c64ba7c8", func := "dovecote/dovecotelaw15.GraphWrites", spec := "graphWrites", unfollowed := true, recurses := true, apart := false, narrowed := true }
def GraphWritesUptoSaid : Prop := graphWritesUptoRow.holds Try.pinned (OpenSpec.upto graphWritesSpec)

/-- 'dovecotelaw15.GraphPops', WHERE WHAT IT READS IS OF BULK AT MOST 1048576: true; the input reads as it did. -/
def graphPopsUptoRow : OpenClaim := { program := "ytlocllcijncllaa", sum := "3db2ba0c6b82cd4fb8de4539652c5d5c8dc038c3d827f2f07e58ae55c64ba7c8", func := "dovecote/dovecotelaw15.GraphPops", spec := "graphPops", unfollowed := true, recurses := true, apart := false, narrowed := true }
def GraphPopsUptoSaid : Prop := graphPopsUptoRow.holds Try.pinned (OpenSpec.upto graphPopsSpec)

/-- 'dovecotelaw15.GraphLinks', WHERE WHAT IT READS IS OF BULK AT MOST 1048576: true; the input reads as it did. -/
def graphLinksUptoRow : OpenClaim := { program := "ytlocllcijncllaa", sum := "3db2ba0c6b82cd4fb8de4539652c5d5c8dc038c3d827f2f07e58ae55c64ba7c8", func := "dovecote/dovecotelaw15.GraphLinks", spec := "graphLinks", unfollowed := true, recurses := true, apart := false, narrowed := true }
def GraphLinksUptoSaid : Prop := graphLinksUptoRow.holds Try.pinned (OpenSpec.upto graphLinksSpec)

/-- 'dovecotelaw15.GraphFresh', WHERE WHAT IT READS IS OF BULK AT MOST 1048576: true; the input reads as it did. -/
def graphFreshUptoRow : OpenClaim := { program := "ytlocllcijncllaa", sum := "3db2ba0c6b82cd4fb8de4539652c5d5c8dc038c3d827f2f07e58ae55c64ba7c8", func := "dovecote/dovecotelaw15.GraphFresh", spec := "graphFresh", unfollowed := true, recurses := true, apart := false, narrowed := true }
def GraphFreshUptoSaid : Prop := graphFreshUptoRow.holds Try.pinned (OpenSpec.upto graphFreshSpec)

end Rows
end Go.Proofs.Ytlocllcijncllaa
