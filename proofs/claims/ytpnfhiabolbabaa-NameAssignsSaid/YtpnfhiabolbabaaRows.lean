/-
  No cell of these rows narrows 'for every input' (looked for: loops, veiled, ifaces, maps, wideKeys, modest, calm, conditions, laid).
  DERIVED. THE GIVEN ROWS OF THIS SEAT. 2 by the template 'for every input the law returns true; each argument reads behind the call as it read before'; 0 by the template 'total and deterministic' (their statements: YtpnfhiabolbabaaTotals.lean).
  GIVEN WITH THE SEED: the statements are not yours to turn. If you find one false, say at which input.
  Laid BY PROGRAM, IN A SANDBOX (cutbox-rows.mjs): the forced cells as the released guide's own fill.sh prints them over the translation 0bf6a569d0a81422… (all of the seat's roots in one cut). By AI agents, Wed Nov 11 2026. No macro, syntax, notation, axiom, sorry.
-/
import Derived.Test.YtpnfhiabolbabaaChecked
import GoSem.Claim
import GoSem.ClaimJoined
import GoSem.ClaimMapViews
import Derived.JoinedTies
import Derived.KernelRfl
namespace Go.Proofs.Ytpnfhiabolbabaa
/- THE CELL 'sum', in the pinned program and in every row, IS THE sha256 OF THE DUMP (.gsa) THAT YtpnfhiabolbabaaProg.lean LOADS. Nothing in Lean hashes anything: it is a label: what it is worth is what the hold of that sum in a sandbox is worth. -/
noncomputable def Try.pinned : Pinned := { name := "ytpnfhiabolbabaa", sum := "0bf6a569d0a81422469ab3c3ca92b02228691002ad6d49cfcda58e93419285f4", checked := Try.checked }
namespace Rows
def none {H : Type} : Left H := { results := [], args := [] }

/-- 'haywardlaw17.NameAssigns': WHATEVER THE INPUT: true; the input reads as it did. -/
def nameAssignsSpec : ChangeSpec := { name := "nameAssigns", fn := fun _ => fun
  | [d1, d2] => { results := [.lit (.bool true)], args := [d1, d2] }
  | _ => none }
def nameAssignsRow : OpenClaim := { program := "ytpnfhiabolbabaa", sum := "0bf6a569d0a81422469ab3c3ca92b02228691002ad6d49cfcda58e93419285f4", func := "hayward/haywardlaw17.NameAssigns", spec := "nameAssigns", unfollowed := true, recurses := true, apart := false }
def NameAssignsSaid : Prop := nameAssignsRow.holds Try.pinned (OpenSpec.ofChange nameAssignsSpec)

/-- ITS FALSE NEIGHBOUR: 'it returns false'. Refute it at one input. -/
def nameAssignsWrong : ChangeSpec := { name := "nameAssigns", fn := fun _ => fun
  | [d1, d2] => { results := [.lit (.bool false)], args := [d1, d2] }
  | _ => none }
def NameAssignsWrongFalsely : Prop := nameAssignsRow.holds Try.pinned (OpenSpec.ofChange nameAssignsWrong)

/-- 'haywardlaw17.NameKeeps': WHATEVER THE INPUT: true; the input reads as it did. -/
def nameKeepsSpec : ChangeSpec := { name := "nameKeeps", fn := fun _ => fun
  | [d1, d2] => { results := [.lit (.bool true)], args := [d1, d2] }
  | _ => none }
def nameKeepsRow : OpenClaim := { program := "ytpnfhiabolbabaa", sum := "0bf6a569d0a81422469ab3c3ca92b02228691002ad6d49cfcda58e93419285f4", func := "hayward/haywardlaw17.NameKeeps", spec := "nameKeeps", unfollowed := true, recurses := true, apart := false }
def NameKeepsSaid : Prop := nameKeepsRow.holds Try.pinned (OpenSpec.ofChange nameKeepsSpec)

/-- ITS FALSE NEIGHBOUR: 'it returns false'. Refute it at one input. -/
def nameKeepsWrong : ChangeSpec := { name := "nameKeeps", fn := fun _ => fun
  | [d1, d2] => { results := [.lit (.bool false)], args := [d1, d2] }
  | _ => none }
def NameKeepsWrongFalsely : Prop := nameKeepsRow.holds Try.pinned (OpenSpec.ofChange nameKeepsWrong)

/- THE SECOND FORM. 'bulk': how many values and letters a reading holds, each counted each time it is reached (what is shared counts as often as it is met; a slice's spare places count too). A statement '..UptoSaid' is the law's where the arguments, and the package variables that the reading takes, are together of bulk at most 1048576: NARROWER than '..Said'. Prove '..Said' where nothing that the law and all that it calls make is longer than what came in: it says more and counts as full. Else prove '..UptoSaid'. A law counts once. -/
mutual
def uptoBulk {H : Type} : DataW H → Nat
  | .lit (.string bytes) => bytes.length + 1
  | .lit _ => 1
  | .nil => 1
  | .ptr d => uptoBulk d + 1
  | .slice elems spare => uptoBulkAll elems + uptoBulkAll spare + 1
  | .agg parts => uptoBulkAll parts + 1
  | .iface _ d => uptoBulk d + 1
  | .map entries => uptoBulkEntries entries + 1
  | .held _ => 1
def uptoBulkAll {H : Type} : List (DataW H) → Nat
  | [] => 0
  | d :: r => uptoBulk d + uptoBulkAll r
def uptoBulkEntries {H : Type} : List (Lit × DataW H) → Nat
  | [] => 0
  | x :: r => uptoBulkEntry x + uptoBulkEntries r
def uptoBulkEntry {H : Type} : Lit × DataW H → Nat
  | (.string bytes, d) => bytes.length + uptoBulk d + 1
  | (_, d) => uptoBulk d + 1
 end
def uptoSmall : (H : Type) → List (DataW H) → Bool := fun _ ds => decide (uptoBulkAll ds ≤ 1048576)
def OpenSpec.upto (s : _root_.Go.ChangeSpec) : _root_.Go.OpenSpec := { _root_.Go.OpenSpec.ofChange s with cond := some uptoSmall }

/-- 'haywardlaw17.NameAssigns', WHERE WHAT IT READS IS OF BULK AT MOST 1048576: true; the input reads as it did. -/
def nameAssignsUptoRow : OpenClaim := { program := "ytpnfhiabolbabaa", sum := "0bf6a569d0a81422469ab3c3ca92b02228691002ad6d49cfcda58e93419285f4", func := "hayward/haywardlaw17.NameAssigns", spec := "nameAssigns", unfollowed := true, recurses := true, apart := false, narrowed := true }
def NameAssignsUptoSaid : Prop := nameAssignsUptoRow.holds Try.pinned (OpenSpec.upto nameAssignsSpec)

/-- 'haywardlaw17.NameKeeps', WHERE WHAT IT READS IS OF BULK AT MOST 1048576: true; the input reads as it did. -/
def nameKeepsUptoRow : OpenClaim := { program := "ytpnfhiabolbabaa", sum := "0bf6a569d0a81422469ab3c3ca92b02228691002ad6d49cfcda58e93419285f4", func := "hayward/haywardlaw17.NameKeeps", spec := "nameKeeps", unfollowed := true, recurses := true, apart := false, narrowed := true }
def NameKeepsUptoSaid : Prop := nameKeepsUptoRow.holds Try.pinned (OpenSpec.upto nameKeepsSpec)

end Rows
end Go.Proofs.Ytpnfhiabolbabaa
