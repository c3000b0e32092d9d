/-
  No cell of these rows narrows 'for every input' (looked for: loops, veiled, ifaces, maps, wideKeys, modest, calm, conditions, laid).
  DERIVED. THE GIVEN ROWS OF THIS SEAT. 3 by the template 'for every input the law returns true; each argument reads behind the call as it read before'; 0 by the template 'total and deterministic' (their statements: YtchbccaokoiodaaTotals.lean).
  GIVEN WITH THE SEED: the statements are not yours to turn. If you find one false, say at which input.
  Laid BY PROGRAM, IN A SANDBOX (cutbox-rows.mjs): the forced cells as the released guide's own fill.sh prints them over the translation 1a03a35323733d5d… (all of the seat's roots in one cut). By AI agents, Wed Nov 11 2026. No macro, syntax, notation, axiom, sorry.
-/
import Derived.Test.YtchbccaokoiodaaChecked
import GoSem.Claim
import GoSem.ClaimJoined
import GoSem.ClaimMapViews
import Derived.JoinedTies
import Derived.KernelRfl
namespace Go.Proofs.Ytchbccaokoiodaa
/- THE CELL 'sum', in the pinned program and in every row, IS THE sha256 OF THE DUMP (.gsa) THAT YtchbccaokoiodaaProg.lean LOADS. Nothing in Lean hashes anything: it is a label: what it is worth is what the hold of that sum in a sandbox is worth. -/
noncomputable def Try.pinned : Pinned := { name := "ytchbccaokoiodaa", sum := "1a03a35323733d5de5229087549414cf8ce05a77f88205ec2236a74e051f0695", checked := Try.checked }
namespace Rows
def none {H : Type} : Left H := { results := [], args := [] }

/-- 'haywardlaw11.RodlPuts': WHATEVER THE INPUT: true; the input reads as it did. -/
def rodlPutsSpec : ChangeSpec := { name := "rodlPuts", fn := fun _ => fun
  | [d1, d2] => { results := [.lit (.bool true)], args := [d1, d2] }
  | _ => none }
def rodlPutsRow : OpenClaim := { program := "ytchbccaokoiodaa", sum := "1a03a35323733d5de5229087549414cf8ce05a77f88205ec2236a74e051f0695", func := "hayward/haywardlaw11.RodlPuts", spec := "rodlPuts", apart := false }
def RodlPutsSaid : Prop := rodlPutsRow.holds Try.pinned (OpenSpec.ofChange rodlPutsSpec)

/-- ITS FALSE NEIGHBOUR: 'it returns false'. Refute it at one input. -/
def rodlPutsWrong : ChangeSpec := { name := "rodlPuts", fn := fun _ => fun
  | [d1, d2] => { results := [.lit (.bool false)], args := [d1, d2] }
  | _ => none }
def RodlPutsWrongFalsely : Prop := rodlPutsRow.holds Try.pinned (OpenSpec.ofChange rodlPutsWrong)

/-- 'haywardlaw11.RodlTables': WHATEVER THE INPUT: true; the input reads as it did. -/
def rodlTablesSpec : ChangeSpec := { name := "rodlTables", fn := fun _ => fun
  | [d1, d2] => { results := [.lit (.bool true)], args := [d1, d2] }
  | _ => none }
def rodlTablesRow : OpenClaim := { program := "ytchbccaokoiodaa", sum := "1a03a35323733d5de5229087549414cf8ce05a77f88205ec2236a74e051f0695", func := "hayward/haywardlaw11.RodlTables", spec := "rodlTables", apart := false }
def RodlTablesSaid : Prop := rodlTablesRow.holds Try.pinned (OpenSpec.ofChange rodlTablesSpec)

/-- ITS FALSE NEIGHBOUR: 'it returns false'. Refute it at one input. -/
def rodlTablesWrong : ChangeSpec := { name := "rodlTables", fn := fun _ => fun
  | [d1, d2] => { results := [.lit (.bool false)], args := [d1, d2] }
  | _ => none }
def RodlTablesWrongFalsely : Prop := rodlTablesRow.holds Try.pinned (OpenSpec.ofChange rodlTablesWrong)

/-- 'haywardlaw11.RodlRound': WHATEVER THE INPUT: true; the input reads as it did. -/
def rodlRoundSpec : ChangeSpec := { name := "rodlRound", fn := fun _ => fun
  | [d1, d2, d3, d4] => { results := [.lit (.bool true)], args := [d1, d2, d3, d4] }
  | _ => none }
def rodlRoundRow : OpenClaim := { program := "ytchbccaokoiodaa", sum := "1a03a35323733d5de5229087549414cf8ce05a77f88205ec2236a74e051f0695", func := "hayward/haywardlaw11.RodlRound", spec := "rodlRound", apart := false }
def RodlRoundSaid : Prop := rodlRoundRow.holds Try.pinned (OpenSpec.ofChange rodlRoundSpec)

/-- ITS FALSE NEIGHBOUR: 'it returns false'. Refute it at one input. -/
def rodlRoundWrong : ChangeSpec := { name := "rodlRound", fn := fun _ => fun
  | [d1, d2, d3, d4] => { results := [.lit (.bool false)], args := [d1, d2, d3, d4] }
  | _ => none }
def RodlRoundWrongFalsely : Prop := rodlRoundRow.holds Try.pinned (OpenSpec.ofChange rodlRoundWrong)

/- THE SECOND FORM. 'bulk': how many values and letters a reading holds, each counted each time it is reached (what is shared counts as often as it is met; a slice's spare places count too). A statement '..UptoSaid' is the law's where the arguments, and the package variables that the reading takes, are together of bulk at most 1048576: NARROWER than '..Said'. Prove '..Said' where nothing that the law and all that it calls make is longer than what came in: it says more and counts as full. Else prove '..UptoSaid'. A law counts once. -/
mutual
def uptoBulk {H : Type} : DataW H → Nat
  | .lit (.string bytes) => bytes.length + 1
  | .lit _ => 1
  | .nil => 1
  | .ptr d => uptoBulk d + 1
  | .slice elems spare => uptoBulkAll elems + uptoBulkAll spare + 1
  | .agg parts => uptoBulkAll parts + 1
  | .iface _ d => uptoBulk d + 1
  | .map entries => uptoBulkEntries entries + 1
  | .held _ => 1
def uptoBulkAll {H : Type} : List (DataW H) → Nat
  | [] => 0
  | d :: r => uptoBulk d + uptoBulkAll r
def uptoBulkEntries {H : Type} : List (Lit × DataW H) → Nat
  | [] => 0
  | x :: r => uptoBulkEntry x + uptoBulkEntries r
def uptoBulkEntry {H : Type} : Lit × DataW H → Nat
  | (.string bytes, d) => bytes.length + uptoBulk d + 1
  | (_, d) => uptoBulk d + 1
 end
def uptoSmall : (H : Type) → List (DataW H) → Bool := fun _ ds => decide (uptoBulkAll ds ≤ 1048576)
def OpenSpec.upto (s : _root_.Go.ChangeSpec) : _root_.Go.OpenSpec := { _root_.Go.OpenSpec.ofChange s with cond := some uptoSmall }

/-- 'haywardlaw11.RodlPuts', WHERE WHAT IT READS IS OF BULK AT MOST 1048576: true; the input reads as it did. -/
def rodlPutsUptoRow : OpenClaim := { program := "ytchbccaokoiodaa", sum := "1a03a35323733d5de5229087549414cf8ce05a77f88205ec2236a74e051f0695", func := "hayward/haywardlaw11.RodlPuts", spec := "rodlPuts", apart := false, narrowed := true }
def RodlPutsUptoSaid : Prop := rodlPutsUptoRow.holds Try.pinned (OpenSpec.upto rodlPutsSpec)

/-- 'haywardlaw11.RodlTables', WHERE WHAT IT READS IS OF BULK AT MOST 1048576: true; the input reads as it did. -/
def rodlTablesUptoRow : OpenClaim := { program := "ytchbccaokoiodaa", sum := "1a03a35323733d5de5229087549414cf8ce05a77f88205ec2236a74e051f0695", func := "hayward/haywardlaw11.RodlTables", spec := "rodlTables", apart := false, narrowed := true }
def RodlTablesUptoSaid : Prop := rodlTablesUptoRow.holds Try.pinned (OpenSpec.upto rodlTablesSpec)

/-- 'haywardlaw11.RodlRound', WHERE WHAT IT READS IS OF BULK AT MOST 1048576: true; the input reads as it did. -/
def rodlRoundUptoRow : OpenClaim := { program := "ytchbccaokoiodaa", sum := "1a03a35323733d5de5229087549414cf8ce05a77f88205ec2236a74e051f0695", func := "hayward/haywardlaw11.RodlRound", spec := "rodlRound", apart := false, narrowed := true }
def RodlRoundUptoSaid : Prop := rodlRoundUptoRow.holds Try.pinned (OpenSpec.upto rodlRoundSpec)

end Rows
end Go.Proofs.Ytchbccaokoiodaa
