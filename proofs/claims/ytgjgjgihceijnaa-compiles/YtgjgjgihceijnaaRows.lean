/-
  No cell of these rows narrows 'for every input' (looked for: loops, veiled, ifaces, maps, wideKeys, modest, calm, conditions, laid).
  DERIVED. THE GIVEN ROWS OF THIS SEAT. 8 by the template 'for every input the law returns true; each argument reads behind the call as it read before'; 0 by the template 'total and deterministic' (their statements: YtgjgjgihceijnaaTotals.lean).
  GIVEN WITH THE SEED: the statements are not yours to turn. If you find one false, say at which input.
  Laid BY PROGRAM, IN A SANDBOX (cutbox-rows.mjs): the forced cells as the released guide's own fill.sh prints them over the translation c9401725b3e67343… (all of the seat's roots in one cut). By AI agents, Wed Nov 11 2026. No macro, syntax, notation, axiom, sorry.
-/
import Derived.Test.YtgjgjgihceijnaaChecked
import GoSem.Claim
import GoSem.ClaimJoined
import GoSem.ClaimMapViews
import Derived.JoinedTies
import Derived.KernelRfl
namespace Go.Proofs.Ytgjgjgihceijnaa
/- THE CELL 'sum', in the pinned program and in every row, IS THE sha256 OF THE DUMP (.gsa) THAT YtgjgjgihceijnaaProg.lean LOADS. Nothing in Lean hashes anything: it is a label: what it is worth is what the hold of that sum in a sandbox is worth. -/
noncomputable def Try.pinned : Pinned := { name := "ytgjgjgihceijnaa", sum := "c9401725b3e67343bba06d76775b1cc06a27bccac3f67695312467565eef098d", checked := Try.checked }
namespace Rows
def none {H : Type} : Left H := { results := [], args := [] }

/-- 'stencillaw.Compiles': WHATEVER THE INPUT: true; the input reads as it did. -/
def compilesSpec : ChangeSpec := { name := "compiles", fn := fun _ => fun
  | [d] => { results := [.lit (.bool true)], args := [d] }
  | _ => none }
def compilesRow : OpenClaim := { program := "ytgjgjgihceijnaa", sum := "c9401725b3e67343bba06d76775b1cc06a27bccac3f67695312467565eef098d", func := "stencil/stencillaw.Compiles", spec := "compiles", recurses := true, apart := false }
def CompilesSaid : Prop := compilesRow.holds Try.pinned (OpenSpec.ofChange compilesSpec)

/-- ITS FALSE NEIGHBOUR: 'it returns false'. Refute it at one input. -/
def compilesWrong : ChangeSpec := { name := "compiles", fn := fun _ => fun
  | [d] => { results := [.lit (.bool false)], args := [d] }
  | _ => none }
def CompilesWrongFalsely : Prop := compilesRow.holds Try.pinned (OpenSpec.ofChange compilesWrong)

/-- 'stencillaw.Checks': WHATEVER THE INPUT: true; the input reads as it did. -/
def checksSpec : ChangeSpec := { name := "checks", fn := fun _ => fun
  | [d] => { results := [.lit (.bool true)], args := [d] }
  | _ => none }
def checksRow : OpenClaim := { program := "ytgjgjgihceijnaa", sum := "c9401725b3e67343bba06d76775b1cc06a27bccac3f67695312467565eef098d", func := "stencil/stencillaw.Checks", spec := "checks", apart := false }
def ChecksSaid : Prop := checksRow.holds Try.pinned (OpenSpec.ofChange checksSpec)

/-- ITS FALSE NEIGHBOUR: 'it returns false'. Refute it at one input. -/
def checksWrong : ChangeSpec := { name := "checks", fn := fun _ => fun
  | [d] => { results := [.lit (.bool false)], args := [d] }
  | _ => none }
def ChecksWrongFalsely : Prop := checksRow.holds Try.pinned (OpenSpec.ofChange checksWrong)

/-- 'stencilkeep.Least': WHATEVER THE INPUT: true; the input reads as it did. -/
def leastSpec : ChangeSpec := { name := "least", fn := fun _ => fun
  | [d] => { results := [.lit (.bool true)], args := [d] }
  | _ => none }
def leastRow : OpenClaim := { program := "ytgjgjgihceijnaa", sum := "c9401725b3e67343bba06d76775b1cc06a27bccac3f67695312467565eef098d", func := "stencil/stencilkeep.Least", spec := "least", recurses := true, apart := false }
def LeastSaid : Prop := leastRow.holds Try.pinned (OpenSpec.ofChange leastSpec)

/-- ITS FALSE NEIGHBOUR: 'it returns false'. Refute it at one input. -/
def leastWrong : ChangeSpec := { name := "least", fn := fun _ => fun
  | [d] => { results := [.lit (.bool false)], args := [d] }
  | _ => none }
def LeastWrongFalsely : Prop := leastRow.holds Try.pinned (OpenSpec.ofChange leastWrong)

/-- 'stencillaw.Scans': WHATEVER THE INPUT: true; the input reads as it did. -/
def scansSpec : ChangeSpec := { name := "scans", fn := fun _ => fun
  | [d1, d2] => { results := [.lit (.bool true)], args := [d1, d2] }
  | _ => none }
def scansRow : OpenClaim := { program := "ytgjgjgihceijnaa", sum := "c9401725b3e67343bba06d76775b1cc06a27bccac3f67695312467565eef098d", func := "stencil/stencillaw.Scans", spec := "scans", apart := false }
def ScansSaid : Prop := scansRow.holds Try.pinned (OpenSpec.ofChange scansSpec)

/-- ITS FALSE NEIGHBOUR: 'it returns false'. Refute it at one input. -/
def scansWrong : ChangeSpec := { name := "scans", fn := fun _ => fun
  | [d1, d2] => { results := [.lit (.bool false)], args := [d1, d2] }
  | _ => none }
def ScansWrongFalsely : Prop := scansRow.holds Try.pinned (OpenSpec.ofChange scansWrong)

/-- 'stencilkeep.Alike': WHATEVER THE INPUT: true; the input reads as it did. -/
def alikeSpec : ChangeSpec := { name := "alike", fn := fun _ => fun
  | [d] => { results := [.lit (.bool true)], args := [d] }
  | _ => none }
def alikeRow : OpenClaim := { program := "ytgjgjgihceijnaa", sum := "c9401725b3e67343bba06d76775b1cc06a27bccac3f67695312467565eef098d", func := "stencil/stencilkeep.Alike", spec := "alike", recurses := true, apart := false }
def AlikeSaid : Prop := alikeRow.holds Try.pinned (OpenSpec.ofChange alikeSpec)

/-- ITS FALSE NEIGHBOUR: 'it returns false'. Refute it at one input. -/
def alikeWrong : ChangeSpec := { name := "alike", fn := fun _ => fun
  | [d] => { results := [.lit (.bool false)], args := [d] }
  | _ => none }
def AlikeWrongFalsely : Prop := alikeRow.holds Try.pinned (OpenSpec.ofChange alikeWrong)

/-- 'stencilkeep.Words': WHATEVER THE INPUT: true; the input reads as it did. -/
def wordsSpec : ChangeSpec := { name := "words", fn := fun _ => fun
  | [d1, d2] => { results := [.lit (.bool true)], args := [d1, d2] }
  | _ => none }
def wordsRow : OpenClaim := { program := "ytgjgjgihceijnaa", sum := "c9401725b3e67343bba06d76775b1cc06a27bccac3f67695312467565eef098d", func := "stencil/stencilkeep.Words", spec := "words", recurses := true, apart := false }
def WordsSaid : Prop := wordsRow.holds Try.pinned (OpenSpec.ofChange wordsSpec)

/-- ITS FALSE NEIGHBOUR: 'it returns false'. Refute it at one input. -/
def wordsWrong : ChangeSpec := { name := "words", fn := fun _ => fun
  | [d1, d2] => { results := [.lit (.bool false)], args := [d1, d2] }
  | _ => none }
def WordsWrongFalsely : Prop := wordsRow.holds Try.pinned (OpenSpec.ofChange wordsWrong)

/-- 'stencilkeep.Linear': WHATEVER THE INPUT: true; the input reads as it did. -/
def linearSpec : ChangeSpec := { name := "linear", fn := fun _ => fun
  | [d1, d2] => { results := [.lit (.bool true)], args := [d1, d2] }
  | _ => none }
def linearRow : OpenClaim := { program := "ytgjgjgihceijnaa", sum := "c9401725b3e67343bba06d76775b1cc06a27bccac3f67695312467565eef098d", func := "stencil/stencilkeep.Linear", spec := "linear", recurses := true, apart := false }
def LinearSaid : Prop := linearRow.holds Try.pinned (OpenSpec.ofChange linearSpec)

/-- ITS FALSE NEIGHBOUR: 'it returns false'. Refute it at one input. -/
def linearWrong : ChangeSpec := { name := "linear", fn := fun _ => fun
  | [d1, d2] => { results := [.lit (.bool false)], args := [d1, d2] }
  | _ => none }
def LinearWrongFalsely : Prop := linearRow.holds Try.pinned (OpenSpec.ofChange linearWrong)

/-- 'stencilkeep.Cutting': WHATEVER THE INPUT: true; the input reads as it did. -/
def cuttingSpec : ChangeSpec := { name := "cutting", fn := fun _ => fun
  | [d1, d2, d3, d4] => { results := [.lit (.bool true)], args := [d1, d2, d3, d4] }
  | _ => none }
def cuttingRow : OpenClaim := { program := "ytgjgjgihceijnaa", sum := "c9401725b3e67343bba06d76775b1cc06a27bccac3f67695312467565eef098d", func := "stencil/stencilkeep.Cutting", spec := "cutting", recurses := true, apart := false }
def CuttingSaid : Prop := cuttingRow.holds Try.pinned (OpenSpec.ofChange cuttingSpec)

/-- ITS FALSE NEIGHBOUR: 'it returns false'. Refute it at one input. -/
def cuttingWrong : ChangeSpec := { name := "cutting", fn := fun _ => fun
  | [d1, d2, d3, d4] => { results := [.lit (.bool false)], args := [d1, d2, d3, d4] }
  | _ => none }
def CuttingWrongFalsely : Prop := cuttingRow.holds Try.pinned (OpenSpec.ofChange cuttingWrong)

/- THE SECOND FORM. 'bulk': how many values and letters a reading holds, each counted each time it is reached (what is shared counts as often as it is met; a slice's spare places count too). A statement '..UptoSaid' is the law's where the arguments, and the package variables that the reading takes, are together of bulk at most 1048576: NARROWER than '..Said'. Prove '..Said' where nothing that the law and all that it calls make is longer than what came in: it says more and counts as full. Else prove '..UptoSaid'. A law counts once. -/
mutual
def uptoBulk {H : Type} : DataW H → Nat
  | .lit (.string bytes) => bytes.length + 1
  | .lit _ => 1
  | .nil => 1
  | .ptr d => uptoBulk d + 1
  | .slice elems spare => uptoBulkAll elems + uptoBulkAll spare + 1
  | .agg parts => uptoBulkAll parts + 1
  | .iface _ d => uptoBulk d + 1
  | .map entries => uptoBulkEntries entries + 1
  | .held _ => 1
def uptoBulkAll {H : Type} : List (DataW H) → Nat
  | [] => 0
  | d :: r => uptoBulk d + uptoBulkAll r
def uptoBulkEntries {H : Type} : List (Lit × DataW H) → Nat
  | [] => 0
  | x :: r => uptoBulkEntry x + uptoBulkEntries r
def uptoBulkEntry {H : Type} : Lit × DataW H → Nat
  | (.string bytes, d) => bytes.length + uptoBulk d + 1
  | (_, d) => uptoBulk d + 1
 end
def uptoSmall : (H : Type) → List (DataW H) → Bool := fun _ ds => decide (uptoBulkAll ds ≤ 1048576)
def OpenSpec.upto (s : _root_.Go.ChangeSpec) : _root_.Go.OpenSpec := { _root_.Go.OpenSpec.ofChange s with cond := some uptoSmall }

/-- 'stencillaw.Compiles', WHERE WHAT IT READS IS OF BULK AT MOST 1048576: true; the input reads as it did. -/
def compilesUptoRow : OpenClaim := { program := "ytgjgjgihceijnaa", sum := "c9401725b3e67343bba06d76775b1cc06a27bccac3f67695312467565eef098d", func := "stencil/stencillaw.Compiles", spec := "compiles", recurses := true, apart := false, narrowed := true }
def CompilesUptoSaid : Prop := compilesUptoRow.holds Try.pinned (OpenSpec.upto compilesSpec)

/-- 'stencillaw.Checks', WHERE WHAT IT READS IS OF BULK AT MOST 1048576: true; the input reads as it did. -/
def checksUptoRow : OpenClaim := { program := "ytgjgjgihceijnaa", sum := "c9401725b3e67343bba06d76775b1cc06a27bccac3f67695312467565eef098d", func := "stencil/stencillaw.Checks", spec := "checks", apart := false, narrowed := true }
def ChecksUptoSaid : Prop := checksUptoRow.holds Try.pinned (OpenSpec.upto checksSpec)

/-- 'stencilkeep.Least', WHERE WHAT IT READS IS OF BULK AT MOST 1048576: true; the input reads as it did. -/
def leastUptoRow : OpenClaim := { program := "ytgjgjgihceijnaa", sum := "c9401725b3e67343bba06d76775b1cc06a27bccac3f67695312467565eef098d", func := "stencil/stencilkeep.Least", spec := "least", recurses := true, apart := false, narrowed := true }
def LeastUptoSaid : Prop := leastUptoRow.holds Try.pinned (OpenSpec.upto leastSpec)

/-- 'stencillaw.Scans', WHERE WHAT IT READS IS OF BULK AT MOST 1048576: true; the input reads as it did. -/
def scansUptoRow : OpenClaim := { program := "ytgjgjgihceijnaa", sum := "c9401725b3e67343bba06d76775b1cc06a27bccac3f67695312467565eef098d", func := "stencil/stencillaw.Scans", spec := "scans", apart := false, narrowed := true }
def ScansUptoSaid : Prop := scansUptoRow.holds Try.pinned (OpenSpec.upto scansSpec)

/-- 'stencilkeep.Alike', WHERE WHAT IT READS IS OF BULK AT MOST 1048576: true; the input reads as it did. -/
def alikeUptoRow : OpenClaim := { program := "ytgjgjgihceijnaa", sum := "c9401725b3e67343bba06d76775b1cc06a27bccac3f67695312467565eef098d", func := "stencil/stencilkeep.Alike", spec := "alike", recurses := true, apart := false, narrowed := true }
def AlikeUptoSaid : Prop := alikeUptoRow.holds Try.pinned (OpenSpec.upto alikeSpec)

/-- 'stencilkeep.Words', WHERE WHAT IT READS IS OF BULK AT MOST 1048576: true; the input reads as it did. -/
def wordsUptoRow : OpenClaim := { program := "ytgjgjgihceijnaa", sum := "c9401725b3e67343bba06d76775b1cc06a27bccac3f67695312467565eef098d", func := "stencil/stencilkeep.Words", spec := "words", recurses := true, apart := false, narrowed := true }
def WordsUptoSaid : Prop := wordsUptoRow.holds Try.pinned (OpenSpec.upto wordsSpec)

/-- 'stencilkeep.Linear', WHERE WHAT IT READS IS OF BULK AT MOST 1048576: true; the input reads as it did. -/
def linearUptoRow : OpenClaim := { program := "ytgjgjgihceijnaa", sum := "c9401725b3e67343bba06d76775b1cc06a27bccac3f67695312467565eef098d", func := "stencil/stencilkeep.Linear", spec := "linear", recurses := true, apart := false, narrowed := true }
def LinearUptoSaid : Prop := linearUptoRow.holds Try.pinned (OpenSpec.upto linearSpec)

/-- 'stencilkeep.Cutting', WHERE WHAT IT READS IS OF BULK AT MOST 1048576: true; the input reads as it did. -/
def cuttingUptoRow : OpenClaim := { program := "ytgjgjgihceijnaa", sum := "c9401725b3e67343bba06d76775b1cc06a27bccac3f67695312467565eef098d", func := "stencil/stencilkeep.Cutting", spec := "cutting", recurses := true, apart := false, narrowed := true }
def CuttingUptoSaid : Prop := cuttingUptoRow.holds Try.pinned (OpenSpec.upto cuttingSpec)

end Rows
end Go.Proofs.Ytgjgjgihceijnaa
