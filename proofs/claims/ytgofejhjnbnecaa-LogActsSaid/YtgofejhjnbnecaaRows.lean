/-
  No cell of these rows narrows 'for every input' (looked for: loops, veiled, ifaces, maps, wideKeys, modest, calm, conditions, laid).
  DERIVED. THE GIVEN ROWS OF THIS SEAT. 7 by the template 'for every input the law returns true; each argument reads behind the call as it read before'; 0 by the template 'total and deterministic' (their statements: YtgofejhjnbnecaaTotals.lean).
  GIVEN WITH THE SEED: the statements are not yours to turn. If you find one false, say at which input.
  Laid BY PROGRAM, IN A SANDBOX (cutbox-rows.mjs): the forced cells as the released guide's own fill.sh prints them over the translation acedf52f49f578ce… (all of the seat's roots in one cut). By AI agents, Wed Nov 11 2026. No macro, syntax, notation, axiom, sorry.
-/
import Derived.Test.YtgofejhjnbnecaaChecked
import GoSem.Claim
import GoSem.ClaimJoined
import GoSem.ClaimMapViews
import Derived.JoinedTies
import Derived.KernelRfl
namespace Go.Proofs.Ytgofejhjnbnecaa
/- THE CELL 'sum', in the pinned program and in every row, IS THE sha256 OF THE DUMP (.gsa) THAT YtgofejhjnbnecaaProg.lean LOADS. Nothing in Lean hashes anything: it is a label: what it is worth is what the hold of that sum in a sandbox is worth. -/
noncomputable def Try.pinned : Pinned := { name := "ytgofejhjnbnecaa", sum := "acedf52f49f578ce8ca9ad9716db8e37a5511c2fb593342cdcbdc646dd349a37", checked := Try.checked }
namespace Rows
def none {H : Type} : Left H := { results := [], args := [] }

/-- 'dovecotelaw10.LogActs': WHATEVER THE INPUT: true; the input reads as it did. -/
def logActsSpec : ChangeSpec := { name := "logActs", fn := fun _ => fun
  | [d] => { results := [.lit (.bool true)], args := [d] }
  | _ => none }
def logActsRow : OpenClaim := { program := "ytgofejhjnbnecaa", sum := "acedf52f49f578ce8ca9ad9716db8e37a5511c2fb593342cdcbdc646dd349a37", func := "dovecote/dovecotelaw10.LogActs", spec := "logActs", unfollowed := true, recurses := true, plainKeys := false, apart := false }
def LogActsSaid : Prop := logActsRow.holds Try.pinned (OpenSpec.ofChange logActsSpec)

/-- ITS FALSE NEIGHBOUR: 'it returns false'. Refute it at one input. -/
def logActsWrong : ChangeSpec := { name := "logActs", fn := fun _ => fun
  | [d] => { results := [.lit (.bool false)], args := [d] }
  | _ => none }
def LogActsWrongFalsely : Prop := logActsRow.holds Try.pinned (OpenSpec.ofChange logActsWrong)

/-- 'dovecotelaw10.LogBack': WHATEVER THE INPUT: true; the input reads as it did. -/
def logBackSpec : ChangeSpec := { name := "logBack", fn := fun _ => fun
  | [d] => { results := [.lit (.bool true)], args := [d] }
  | _ => none }
def logBackRow : OpenClaim := { program := "ytgofejhjnbnecaa", sum := "acedf52f49f578ce8ca9ad9716db8e37a5511c2fb593342cdcbdc646dd349a37", func := "dovecote/dovecotelaw10.LogBack", spec := "logBack", plainKeys := false, apart := false }
def LogBackSaid : Prop := logBackRow.holds Try.pinned (OpenSpec.ofChange logBackSpec)

/-- ITS FALSE NEIGHBOUR: 'it returns false'. Refute it at one input. -/
def logBackWrong : ChangeSpec := { name := "logBack", fn := fun _ => fun
  | [d] => { results := [.lit (.bool false)], args := [d] }
  | _ => none }
def LogBackWrongFalsely : Prop := logBackRow.holds Try.pinned (OpenSpec.ofChange logBackWrong)

/-- 'dovecotelaw10.LogOnce': WHATEVER THE INPUT: true; the input reads as it did. -/
def logOnceSpec : ChangeSpec := { name := "logOnce", fn := fun _ => fun
  | [d] => { results := [.lit (.bool true)], args := [d] }
  | _ => none }
def logOnceRow : OpenClaim := { program := "ytgofejhjnbnecaa", sum := "acedf52f49f578ce8ca9ad9716db8e37a5511c2fb593342cdcbdc646dd349a37", func := "dovecote/dovecotelaw10.LogOnce", spec := "logOnce", plainKeys := false, apart := false }
def LogOnceSaid : Prop := logOnceRow.holds Try.pinned (OpenSpec.ofChange logOnceSpec)

/-- ITS FALSE NEIGHBOUR: 'it returns false'. Refute it at one input. -/
def logOnceWrong : ChangeSpec := { name := "logOnce", fn := fun _ => fun
  | [d] => { results := [.lit (.bool false)], args := [d] }
  | _ => none }
def LogOnceWrongFalsely : Prop := logOnceRow.holds Try.pinned (OpenSpec.ofChange logOnceWrong)

/-- 'dovecotelaw10.LogNext': WHATEVER THE INPUT: true; the input reads as it did. -/
def logNextSpec : ChangeSpec := { name := "logNext", fn := fun _ => fun
  | [d] => { results := [.lit (.bool true)], args := [d] }
  | _ => none }
def logNextRow : OpenClaim := { program := "ytgofejhjnbnecaa", sum := "acedf52f49f578ce8ca9ad9716db8e37a5511c2fb593342cdcbdc646dd349a37", func := "dovecote/dovecotelaw10.LogNext", spec := "logNext", unfollowed := true, recurses := true, plainKeys := false, apart := false }
def LogNextSaid : Prop := logNextRow.holds Try.pinned (OpenSpec.ofChange logNextSpec)

/-- ITS FALSE NEIGHBOUR: 'it returns false'. Refute it at one input. -/
def logNextWrong : ChangeSpec := { name := "logNext", fn := fun _ => fun
  | [d] => { results := [.lit (.bool false)], args := [d] }
  | _ => none }
def LogNextWrongFalsely : Prop := logNextRow.holds Try.pinned (OpenSpec.ofChange logNextWrong)

/-- 'dovecotelaw10.LogMost': WHATEVER THE INPUT: true; the input reads as it did. -/
def logMostSpec : ChangeSpec := { name := "logMost", fn := fun _ => fun
  | [d1, d2, d3] => { results := [.lit (.bool true)], args := [d1, d2, d3] }
  | _ => none }
def logMostRow : OpenClaim := { program := "ytgofejhjnbnecaa", sum := "acedf52f49f578ce8ca9ad9716db8e37a5511c2fb593342cdcbdc646dd349a37", func := "dovecote/dovecotelaw10.LogMost", spec := "logMost", plainKeys := false, apart := false }
def LogMostSaid : Prop := logMostRow.holds Try.pinned (OpenSpec.ofChange logMostSpec)

/-- ITS FALSE NEIGHBOUR: 'it returns false'. Refute it at one input. -/
def logMostWrong : ChangeSpec := { name := "logMost", fn := fun _ => fun
  | [d1, d2, d3] => { results := [.lit (.bool false)], args := [d1, d2, d3] }
  | _ => none }
def LogMostWrongFalsely : Prop := logMostRow.holds Try.pinned (OpenSpec.ofChange logMostWrong)

/-- 'dovecotelaw10.LogMany': WHATEVER THE INPUT: true; the input reads as it did. -/
def logManySpec : ChangeSpec := { name := "logMany", fn := fun _ => fun
  | [d1, d2] => { results := [.lit (.bool true)], args := [d1, d2] }
  | _ => none }
def logManyRow : OpenClaim := { program := "ytgofejhjnbnecaa", sum := "acedf52f49f578ce8ca9ad9716db8e37a5511c2fb593342cdcbdc646dd349a37", func := "dovecote/dovecotelaw10.LogMany", spec := "logMany", unfollowed := true, recurses := true, plainKeys := false, apart := false }
def LogManySaid : Prop := logManyRow.holds Try.pinned (OpenSpec.ofChange logManySpec)

/-- ITS FALSE NEIGHBOUR: 'it returns false'. Refute it at one input. -/
def logManyWrong : ChangeSpec := { name := "logMany", fn := fun _ => fun
  | [d1, d2] => { results := [.lit (.bool false)], args := [d1, d2] }
  | _ => none }
def LogManyWrongFalsely : Prop := logManyRow.holds Try.pinned (OpenSpec.ofChange logManyWrong)

/-- 'dovecotelaw10.LogLast': WHATEVER THE INPUT: true; the input reads as it did. -/
def logLastSpec : ChangeSpec := { name := "logLast", fn := fun _ => fun
  | [d1, d2] => { results := [.lit (.bool true)], args := [d1, d2] }
  | _ => none }
def logLastRow : OpenClaim := { program := "ytgofejhjnbnecaa", sum := "acedf52f49f578ce8ca9ad9716db8e37a5511c2fb593342cdcbdc646dd349a37", func := "dovecote/dovecotelaw10.LogLast", spec := "logLast", plainKeys := false, apart := false }
def LogLastSaid : Prop := logLastRow.holds Try.pinned (OpenSpec.ofChange logLastSpec)

/-- ITS FALSE NEIGHBOUR: 'it returns false'. Refute it at one input. -/
def logLastWrong : ChangeSpec := { name := "logLast", fn := fun _ => fun
  | [d1, d2] => { results := [.lit (.bool false)], args := [d1, d2] }
  | _ => none }
def LogLastWrongFalsely : Prop := logLastRow.holds Try.pinned (OpenSpec.ofChange logLastWrong)

/- THE SECOND FORM. 'bulk': how many values and letters a reading holds, each counted each time it is reached (what is shared counts as often as it is met; a slice's spare places count too). A statement '..UptoSaid' is the law's where the arguments, and the package variables that the reading takes, are together of bulk at most 1048576: NARROWER than '..Said'. Prove '..Said' where nothing that the law and all that it calls make is longer than what came in: it says more and counts as full. Else prove '..UptoSaid'. A law counts once. -/
mutual
def uptoBulk {H : Type} : DataW H → Nat
  | .lit (.string bytes) => bytes.length + 1
  | .lit _ => 1
  | .nil => 1
  | .ptr d => uptoBulk d + 1
  | .slice elems spare => uptoBulkAll elems + uptoBulkAll spare + 1
  | .agg parts => uptoBulkAll parts + 1
  | .iface _ d => uptoBulk d + 1
  | .map entries => uptoBulkEntries entries + 1
  | .held _ => 1
def uptoBulkAll {H : Type} : List (DataW H) → Nat
  | [] => 0
  | d :: r => uptoBulk d + uptoBulkAll r
def uptoBulkEntries {H : Type} : List (Lit × DataW H) → Nat
  | [] => 0
  | x :: r => uptoBulkEntry x + uptoBulkEntries r
def uptoBulkEntry {H : Type} : Lit × DataW H → Nat
  | (.string bytes, d) => bytes.length + uptoBulk d + 1
  | (_, d) => uptoBulk d + 1
 end
def uptoSmall : (H : Type) → List (DataW H) → Bool := fun _ ds => decide (uptoBulkAll ds ≤ 1048576)
def OpenSpec.upto (s : _root_.Go.ChangeSpec) : _root_.Go.OpenSpec := { _root_.Go.OpenSpec.ofChange s with cond := some uptoSmall }

/-- 'dovecotelaw10.LogActs', WHERE WHAT IT READS IS OF BULK AT MOST 1048576: true; the input reads as it did. -/
def logActsUptoRow : OpenClaim := { program := "ytgofejhjnbnecaa", sum := "acedf52f49f578ce8ca9ad9716db8e37a5511c2fb593342cdcbdc646dd349a37", func := "dovecote/dovecotelaw10.LogActs", spec := "logActs", unfollowed := true, recurses := true, plainKeys := false, apart := false, narrowed := true }
def LogActsUptoSaid : Prop := logActsUptoRow.holds Try.pinned (OpenSpec.upto logActsSpec)

/-- 'dovecotelaw10.LogBack', WHERE WHAT IT READS IS OF BULK AT MOST 1048576: true; the input reads as it did. -/
def logBackUptoRow : OpenClaim := { program := "ytgofejhjnbnecaa", sum := "acedf52f49f578ce8ca9ad9716db8e37a5511c2fb593342cdcbdc646dd349a37", func := "dovecote/dovecotelaw10.LogBack", spec := "logBack", plainKeys := false, apart := false, narrowed := true }
def LogBackUptoSaid : Prop := logBackUptoRow.holds Try.pinned (OpenSpec.upto logBackSpec)

/-- 'dovecotelaw10.LogOnce', WHERE WHAT IT READS IS OF BULK AT MOST 1048576: true; the input reads as it did. -/
def logOnceUptoRow : OpenClaim := { program := "ytgofejhjnbnecaa", sum := "acedf52f49f578ce8ca9ad9716db8e37a5511c2fb593342cdcbdc646dd349a37", func := "dovecote/dovecotelaw10.LogOnce", spec := "logOnce", plainKeys := false, apart := false, narrowed := true }
def LogOnceUptoSaid : Prop := logOnceUptoRow.holds Try.pinned (OpenSpec.upto logOnceSpec)

/-- 'dovecotelaw10.LogNext', WHERE WHAT IT READS IS OF BULK AT MOST 1048576: true; the input reads as it did. -/
def logNextUptoRow : OpenClaim := { program := "ytgofejhjnbnecaa", sum := "acedf52f49f578ce8ca9ad9716db8e37a5511c2fb593342cdcbdc646dd349a37", func := "dovecote/dovecotelaw10.LogNext", spec := "logNext", unfollowed := true, recurses := true, plainKeys := false, apart := false, narrowed := true }
def LogNextUptoSaid : Prop := logNextUptoRow.holds Try.pinned (OpenSpec.upto logNextSpec)

/-- 'dovecotelaw10.LogMost', WHERE WHAT IT READS IS OF BULK AT MOST 1048576: true; the input reads as it did. -/
def logMostUptoRow : OpenClaim := { program := "ytgofejhjnbnecaa", sum := "acedf52f49f578ce8ca9ad9716db8e37a5511c2fb593342cdcbdc646dd349a37", func := "dovecote/dovecotelaw10.LogMost", spec := "logMost", plainKeys := false, apart := false, narrowed := true }
def LogMostUptoSaid : Prop := logMostUptoRow.holds Try.pinned (OpenSpec.upto logMostSpec)

/-- 'dovecotelaw10.LogMany', WHERE WHAT IT READS IS OF BULK AT MOST 1048576: true; the input reads as it did. -/
def logManyUptoRow : OpenClaim := { program := "ytgofejhjnbnecaa", sum := "acedf52f49f578ce8ca9ad9716db8e37a5511c2fb593342cdcbdc646dd349a37", func := "dovecote/dovecotelaw10.LogMany", spec := "logMany", unfollowed := true, recurses := true, plainKeys := false, apart := false, narrowed := true }
def LogManyUptoSaid : Prop := logManyUptoRow.holds Try.pinned (OpenSpec.upto logManySpec)

/-- 'dovecotelaw10.LogLast', WHERE WHAT IT READS IS OF BULK AT MOST 1048576: true; the input reads as it did. -/
def logLastUptoRow : OpenClaim := { program := "ytgofejhjnbnecaa", sum := "acedf52f49f578ce8ca9ad9716db8e37a5511c2fb593342cdcbdc646dd349a37", func := "dovecote/dovecotelaw10.LogLast", spec := "logLast", plainKeys := false, apart := false, narrowed := true }
def LogLastUptoSaid : Prop := logLastUptoRow.holds Try.pinned (OpenSpec.upto logLastSpec)

end Rows
end Go.Proofs.Ytgofejhjnbnecaa
