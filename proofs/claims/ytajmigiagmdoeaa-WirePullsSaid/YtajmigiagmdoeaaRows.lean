/-
  No cell of these rows narrows 'for every input' (looked for: loops, veiled, ifaces, maps, wideKeys, modest, calm, conditions, laid).
  DERIVED. THE GIVEN ROWS OF THIS SEAT. 3 by the template 'for every input the law returns true; each argument reads behind the call as it read before'; 0 by the template 'total and deterministic' (their statements: YtajmigiagmdoeaaTotals.lean).
  GIVEN WITH THE SEED: the statements are not yours to turn. If you find one false, say at which input.
  Laid BY PROGRAM, IN A SANDBOX (cutbox-rows.mjs): the forced cells as the released guide's own fill.sh prints them over the translation c5b5b600c50943fc… (all of the seat's roots in one cut). By AI agents, Wed Nov 11 2026. No macro, syntax, notation, axiom, sorry.
-/
import Derived.Test.YtajmigiagmdoeaaChecked
import GoSem.Claim
import GoSem.ClaimJoined
import GoSem.ClaimMapViews
import Derived.JoinedTies
import Derived.KernelRfl
namespace Go.Proofs.Ytajmigiagmdoeaa
/- THE CELL 'sum', in the pinned program and in every row, IS THE sha256 OF THE DUMP (.gsa) THAT YtajmigiagmdoeaaProg.lean LOADS. Nothing in Lean hashes anything: it is a label: what it is worth is what the hold of that sum in a sandbox is worth. -/
noncomputable def Try.pinned : Pinned := { name := "ytajmigiagmdoeaa", sum := "c5b5b600c50943fc357b4fbbcf964ba47c824f38cb909cdb5f53d646074d3577", checked := Try.checked }
namespace Rows
def none {H : Type} : Left H := { results := [], args := [] }

/-- 'haywardlaw02.WireJoins': WHATEVER THE INPUT: true; the input reads as it did. -/
def wireJoinsSpec : ChangeSpec := { name := "wireJoins", fn := fun _ => fun
  | [d1, d2] => { results := [.lit (.bool true)], args := [d1, d2] }
  | _ => none }
def wireJoinsRow : OpenClaim := { program := "ytajmigiagmdoeaa", sum := "c5b5b600c50943fc357b4fbbcf964ba47c824f38cb909cdb5f53d646074d3577", func := "hayward/haywardlaw02.WireJoins", spec := "wireJoins", unfollowed := true, recurses := true, apart := false }
def WireJoinsSaid : Prop := wireJoinsRow.holds Try.pinned (OpenSpec.ofChange wireJoinsSpec)

/-- ITS FALSE NEIGHBOUR: 'it returns false'. Refute it at one input. -/
def wireJoinsWrong : ChangeSpec := { name := "wireJoins", fn := fun _ => fun
  | [d1, d2] => { results := [.lit (.bool false)], args := [d1, d2] }
  | _ => none }
def WireJoinsWrongFalsely : Prop := wireJoinsRow.holds Try.pinned (OpenSpec.ofChange wireJoinsWrong)

/-- 'haywardlaw02.WireFalls': WHATEVER THE INPUT: true; the input reads as it did. -/
def wireFallsSpec : ChangeSpec := { name := "wireFalls", fn := fun _ => fun
  | [d1, d2, d3] => { results := [.lit (.bool true)], args := [d1, d2, d3] }
  | _ => none }
def wireFallsRow : OpenClaim := { program := "ytajmigiagmdoeaa", sum := "c5b5b600c50943fc357b4fbbcf964ba47c824f38cb909cdb5f53d646074d3577", func := "hayward/haywardlaw02.WireFalls", spec := "wireFalls", unfollowed := true, recurses := true, apart := false }
def WireFallsSaid : Prop := wireFallsRow.holds Try.pinned (OpenSpec.ofChange wireFallsSpec)

/-- ITS FALSE NEIGHBOUR: 'it returns false'. Refute it at one input. -/
def wireFallsWrong : ChangeSpec := { name := "wireFalls", fn := fun _ => fun
  | [d1, d2, d3] => { results := [.lit (.bool false)], args := [d1, d2, d3] }
  | _ => none }
def WireFallsWrongFalsely : Prop := wireFallsRow.holds Try.pinned (OpenSpec.ofChange wireFallsWrong)

/-- 'haywardlaw02.WirePulls': WHATEVER THE INPUT: true; the input reads as it did. -/
def wirePullsSpec : ChangeSpec := { name := "wirePulls", fn := fun _ => fun
  | [d1, d2, d3] => { results := [.lit (.bool true)], args := [d1, d2, d3] }
  | _ => none }
def wirePullsRow : OpenClaim := { program := "ytajmigiagmdoeaa", sum := "c5b5b600c50943fc357b4fbbcf964ba47c824f38cb909cdb5f53d646074d3577", func := "hayward/haywardlaw02.WirePulls", spec := "wirePulls", unfollowed := true, recurses := true, apart := false }
def WirePullsSaid : Prop := wirePullsRow.holds Try.pinned (OpenSpec.ofChange wirePullsSpec)

/-- ITS FALSE NEIGHBOUR: 'it returns false'. Refute it at one input. -/
def wirePullsWrong : ChangeSpec := { name := "wirePulls", fn := fun _ => fun
  | [d1, d2, d3] => { results := [.lit (.bool false)], args := [d1, d2, d3] }
  | _ => none }
def WirePullsWrongFalsely : Prop := wirePullsRow.holds Try.pinned (OpenSpec.ofChange wirePullsWrong)

/- THE SECOND FORM. 'bulk': how many values and letters a reading holds, each counted each time it is reached (what is shared counts as often as it is met; a slice's spare places count too). A statement '..UptoSaid' is the law's where the arguments, and the package variables that the reading takes, are together of bulk at most 1048576: NARROWER than '..Said'. Prove '..Said' where nothing that the law and all that it calls make is longer than what came in: it says more and counts as full. Else prove '..UptoSaid'. A law counts once. -/
mutual
def uptoBulk {H : Type} : DataW H → Nat
  | .lit (.string bytes) => bytes.length + 1
  | .lit _ => 1
  | .nil => 1
  | .ptr d => uptoBulk d + 1
  | .slice elems spare => uptoBulkAll elems + uptoBulkAll spare + 1
  | .agg parts => uptoBulkAll parts + 1
  | .iface _ d => uptoBulk d + 1
  | .map entries => uptoBulkEntries entries + 1
  | .held _ => 1
def uptoBulkAll {H : Type} : List (DataW H) → Nat
  | [] => 0
  | d :: r => uptoBulk d + uptoBulkAll r
def uptoBulkEntries {H : Type} : List (Lit × DataW H) → Nat
  | [] => 0
  | x :: r => uptoBulkEntry x + uptoBulkEntries r
def uptoBulkEntry {H : Type} : Lit × DataW H → Nat
  | (.string bytes, d) => bytes.length + uptoBulk d + 1
  | (_, d) => uptoBulk d + 1
 end
def uptoSmall : (H : Type) → List (DataW H) → Bool := fun _ ds => decide (uptoBulkAll ds ≤ 1048576)
def OpenSpec.upto (s : _root_.Go.ChangeSpec) : _root_.Go.OpenSpec := { _root_.Go.OpenSpec.ofChange s with cond := some uptoSmall }

/-- 'haywardlaw02.WireJoins', WHERE WHAT IT READS IS OF BULK AT MOST 1048576: true; the input reads as it did. -/
def wireJoinsUptoRow : OpenClaim := { program := "ytajmigiagmdoeaa", sum := "c5b5b600c50943fc357b4fbbcf964ba47c824f38cb909cdb5f53d646074d3577", func := "hayward/haywardlaw02.WireJoins", spec := "wireJoins", unfollowed := true, recurses := true, apart := false, narrowed := true }
def WireJoinsUptoSaid : Prop := wireJoinsUptoRow.holds Try.pinned (OpenSpec.upto wireJoinsSpec)

/-- 'haywardlaw02.WireFalls', WHERE WHAT IT READS IS OF BULK AT MOST 1048576: true; the input reads as it did. -/
def wireFallsUptoRow : OpenClaim := { program := "ytajmigiagmdoeaa", sum := "c5b5b600c50943fc357b4fbbcf964ba47c824f38cb909cdb5f53d646074d3577", func := "hayward/haywardlaw02.WireFalls", spec := "wireFalls", unfollowed := true, recurses := true, apart := false, narrowed := true }
def WireFallsUptoSaid : Prop := wireFallsUptoRow.holds Try.pinned (OpenSpec.upto wireFallsSpec)

/-- 'haywardlaw02.WirePulls', WHERE WHAT IT READS IS OF BULK AT MOST 1048576: true; the input reads as it did. -/
def wirePullsUptoRow : OpenClaim := { program := "ytajmigiagmdoeaa", sum := "c5b5b600c50943fc357b4fbbcf964ba47c824f38cb909cdb5f53d646074d3577", func := "hayward/haywardlaw02.WirePulls", spec := "wirePulls", unfollowed := true, recurses := true, apart := false, narrowed := true }
def WirePullsUptoSaid : Prop := wirePullsUptoRow.holds Try.pinned (OpenSpec.upto wirePullsSpec)

end Rows
end Go.Proofs.Ytajmigiagmdoeaa
