/-
  NARROWER THAN 'FOR EVERY INPUT', by the rows' own cells (each row's printed sentence says how): ClusterDoes: laid · ClusterServes: laid · WholeAtomic: laid.
  DERIVED. THE GIVEN ROWS OF THIS SEAT. 3 by the template 'for every input the law returns true; each argument reads behind the call as it read before'; 0 by the template 'total and deterministic' (their statements: YtpepoackmcohlaaGreatDoorTotals.lean).
  GIVEN WITH THE SEED: the statements are not yours to turn. If you find one false, say at which input.
  Laid BY PROGRAM, IN A SANDBOX (cutbox-rows.mjs): the forced cells as the released guide's own fill.sh prints them over the translation 6fdf3df6a0f9254a… (all of the seat's roots in one cut). By AI agents, Wed Nov 11 2026. No macro, syntax, notation, axiom, sorry.
-/
import Derived.Test.YtpepoackmcohlaaGreatDoorChecked
import GoSem.Claim
import GoSem.ClaimJoined
import GoSem.ClaimMapViews
import Derived.JoinedTies
import Derived.KernelRfl
namespace Go.Proofs.YtpepoackmcohlaaGreatDoor
/- THE CELL 'sum', in the pinned program and in every row, IS THE sha256 OF THE DUMP (.gsa) THAT YtpepoackmcohlaaGreatDoorProg.lean LOADS. Nothing in Lean hashes anything: it is a label: what it is worth is what the hold of that sum in a sandbox is worth. -/
noncomputable def Tryz.pinned : Pinned := { name := "ytpepoackmcohlaagreatdoor", sum := "6fdf3df6a0f9254a027f2b119e9a7aced670fd2a3f836ad388f808c292b18b24", checked := Tryz.checked }
namespace Rows
def none {H : Type} : Left H := { results := [], args := [] }

/- WHAT THE LISTED PACKAGE-LEVEL VARIABLES READ AS WHEN THE CALL BEGINS. Each datum BY PROGRAM (the guide's laid-datum.mjs) off the statement by which the dump's own 'gosem.cut.vars' lays the variable. In a bare row this is a premise. The card (YtpepoackmcohlaaGreatDoorCards.lean) ties it to the program's text. -/
def laid_errors_errorType {H : Type} : DataW H := .iface "internal/reflectlite.rtype" (.agg [.ptr (.lit (.string [101, 114, 114, 111, 114]))])

/-- 'haywardlaw20.ClusterDoes': WHATEVER THE INPUT: true; the input reads as it did. -/
def clusterDoesSpec : ChangeSpec := { name := "clusterDoes", fn := fun _ => fun
  | [d1, d2] => { results := [.lit (.bool true)], args := [d1, d2] }
  | _ => none }
def clusterDoesRow : OpenClaim := { program := "ytpepoackmcohlaagreatdoor", sum := "6fdf3df6a0f9254a027f2b119e9a7aced670fd2a3f836ad388f808c292b18b24", func := "hayward/haywardlaw20.ClusterDoes", spec := "clusterDoes", inPlace := ["internal/reflectlite.ValueOf", "(internal/reflectlite.Value).Type", "(internal/reflectlite.Value).IsNil", "internal/reflectlite.TypeOf", "(internal/reflectlite.Value).Elem", "(internal/reflectlite.Value).Set"], unfollowed := true, recurses := true, named := ["errors.errorType"], plainKeys := false, apart := false, laid := [("errors.errorType", laid_errors_errorType)] }
def ClusterDoesSaid : Prop := clusterDoesRow.holds Tryz.pinned (OpenSpec.ofChange clusterDoesSpec)

/-- ITS FALSE NEIGHBOUR: 'it returns false'. Refute it at one input. -/
def clusterDoesWrong : ChangeSpec := { name := "clusterDoes", fn := fun _ => fun
  | [d1, d2] => { results := [.lit (.bool false)], args := [d1, d2] }
  | _ => none }
def ClusterDoesWrongFalsely : Prop := clusterDoesRow.holds Tryz.pinned (OpenSpec.ofChange clusterDoesWrong)

/-- 'haywardlaw20.ClusterServes': WHATEVER THE INPUT: true; the input reads as it did. -/
def clusterServesSpec : ChangeSpec := { name := "clusterServes", fn := fun _ => fun
  | [d1, d2, d3, d4, d5] => { results := [.lit (.bool true)], args := [d1, d2, d3, d4, d5] }
  | _ => none }
def clusterServesRow : OpenClaim := { program := "ytpepoackmcohlaagreatdoor", sum := "6fdf3df6a0f9254a027f2b119e9a7aced670fd2a3f836ad388f808c292b18b24", func := "hayward/haywardlaw20.ClusterServes", spec := "clusterServes", inPlace := ["internal/reflectlite.ValueOf", "(internal/reflectlite.Value).Type", "(internal/reflectlite.Value).IsNil", "internal/reflectlite.TypeOf", "(internal/reflectlite.Value).Elem", "(internal/reflectlite.Value).Set"], unfollowed := true, recurses := true, named := ["errors.errorType"], plainKeys := false, apart := false, laid := [("errors.errorType", laid_errors_errorType)] }
def ClusterServesSaid : Prop := clusterServesRow.holds Tryz.pinned (OpenSpec.ofChange clusterServesSpec)

/-- ITS FALSE NEIGHBOUR: 'it returns false'. Refute it at one input. -/
def clusterServesWrong : ChangeSpec := { name := "clusterServes", fn := fun _ => fun
  | [d1, d2, d3, d4, d5] => { results := [.lit (.bool false)], args := [d1, d2, d3, d4, d5] }
  | _ => none }
def ClusterServesWrongFalsely : Prop := clusterServesRow.holds Tryz.pinned (OpenSpec.ofChange clusterServesWrong)

/-- 'haywardtop.WholeAtomic': WHATEVER THE INPUT: true; the input reads as it did. -/
def wholeAtomicSpec : ChangeSpec := { name := "wholeAtomic", fn := fun _ => fun
  | [d1, d2] => { results := [.lit (.bool true)], args := [d1, d2] }
  | _ => none }
def wholeAtomicRow : OpenClaim := { program := "ytpepoackmcohlaagreatdoor", sum := "6fdf3df6a0f9254a027f2b119e9a7aced670fd2a3f836ad388f808c292b18b24", func := "hayward/haywardtop.WholeAtomic", spec := "wholeAtomic", inPlace := ["internal/reflectlite.ValueOf", "(internal/reflectlite.Value).Type", "(internal/reflectlite.Value).IsNil", "internal/reflectlite.TypeOf", "(internal/reflectlite.Value).Elem", "(internal/reflectlite.Value).Set"], unfollowed := true, recurses := true, named := ["errors.errorType"], plainKeys := false, apart := false, laid := [("errors.errorType", laid_errors_errorType)] }
def WholeAtomicSaid : Prop := wholeAtomicRow.holds Tryz.pinned (OpenSpec.ofChange wholeAtomicSpec)

/-- ITS FALSE NEIGHBOUR: 'it returns false'. Refute it at one input. -/
def wholeAtomicWrong : ChangeSpec := { name := "wholeAtomic", fn := fun _ => fun
  | [d1, d2] => { results := [.lit (.bool false)], args := [d1, d2] }
  | _ => none }
def WholeAtomicWrongFalsely : Prop := wholeAtomicRow.holds Tryz.pinned (OpenSpec.ofChange wholeAtomicWrong)

/- THE SECOND FORM. 'bulk': how many values and letters a reading holds, each counted each time it is reached (what is shared counts as often as it is met; a slice's spare places count too). A statement '..UptoSaid' is the law's where the arguments, and the package variables that the reading takes, are together of bulk at most 1048576: NARROWER than '..Said'. Prove '..Said' where nothing that the law and all that it calls make is longer than what came in: it says more and counts as full. Else prove '..UptoSaid'. A law counts once. -/
mutual
def uptoBulk {H : Type} : DataW H → Nat
  | .lit (.string bytes) => bytes.length + 1
  | .lit _ => 1
  | .nil => 1
  | .ptr d => uptoBulk d + 1
  | .slice elems spare => uptoBulkAll elems + uptoBulkAll spare + 1
  | .agg parts => uptoBulkAll parts + 1
  | .iface _ d => uptoBulk d + 1
  | .map entries => uptoBulkEntries entries + 1
  | .held _ => 1
def uptoBulkAll {H : Type} : List (DataW H) → Nat
  | [] => 0
  | d :: r => uptoBulk d + uptoBulkAll r
def uptoBulkEntries {H : Type} : List (Lit × DataW H) → Nat
  | [] => 0
  | x :: r => uptoBulkEntry x + uptoBulkEntries r
def uptoBulkEntry {H : Type} : Lit × DataW H → Nat
  | (.string bytes, d) => bytes.length + uptoBulk d + 1
  | (_, d) => uptoBulk d + 1
 end
def uptoSmall : (H : Type) → List (DataW H) → Bool := fun _ ds => decide (uptoBulkAll ds ≤ 1048576)
def OpenSpec.upto (s : _root_.Go.ChangeSpec) : _root_.Go.OpenSpec := { _root_.Go.OpenSpec.ofChange s with cond := some uptoSmall }

/-- 'haywardlaw20.ClusterDoes', WHERE WHAT IT READS IS OF BULK AT MOST 1048576: true; the input reads as it did. -/
def clusterDoesUptoRow : OpenClaim := { program := "ytpepoackmcohlaagreatdoor", sum := "6fdf3df6a0f9254a027f2b119e9a7aced670fd2a3f836ad388f808c292b18b24", func := "hayward/haywardlaw20.ClusterDoes", spec := "clusterDoes", inPlace := ["internal/reflectlite.ValueOf", "(internal/reflectlite.Value).Type", "(internal/reflectlite.Value).IsNil", "internal/reflectlite.TypeOf", "(internal/reflectlite.Value).Elem", "(internal/reflectlite.Value).Set"], unfollowed := true, recurses := true, named := ["errors.errorType"], plainKeys := false, apart := false, laid := [("errors.errorType", laid_errors_errorType)], narrowed := true }
def ClusterDoesUptoSaid : Prop := clusterDoesUptoRow.holds Tryz.pinned (OpenSpec.upto clusterDoesSpec)

/-- 'haywardlaw20.ClusterServes', WHERE WHAT IT READS IS OF BULK AT MOST 1048576: true; the input reads as it did. -/
def clusterServesUptoRow : OpenClaim := { program := "ytpepoackmcohlaagreatdoor", sum := "6fdf3df6a0f9254a027f2b119e9a7aced670fd2a3f836ad388f808c292b18b24", func := "hayward/haywardlaw20.ClusterServes", spec := "clusterServes", inPlace := ["internal/reflectlite.ValueOf", "(internal/reflectlite.Value).Type", "(internal/reflectlite.Value).IsNil", "internal/reflectlite.TypeOf", "(internal/reflectlite.Value).Elem", "(internal/reflectlite.Value).Set"], unfollowed := true, recurses := true, named := ["errors.errorType"], plainKeys := false, apart := false, laid := [("errors.errorType", laid_errors_errorType)], narrowed := true }
def ClusterServesUptoSaid : Prop := clusterServesUptoRow.holds Tryz.pinned (OpenSpec.upto clusterServesSpec)

/-- 'haywardtop.WholeAtomic', WHERE WHAT IT READS IS OF BULK AT MOST 1048576: true; the input reads as it did. -/
def wholeAtomicUptoRow : OpenClaim := { program := "ytpepoackmcohlaagreatdoor", sum := "6fdf3df6a0f9254a027f2b119e9a7aced670fd2a3f836ad388f808c292b18b24", func := "hayward/haywardtop.WholeAtomic", spec := "wholeAtomic", inPlace := ["internal/reflectlite.ValueOf", "(internal/reflectlite.Value).Type", "(internal/reflectlite.Value).IsNil", "internal/reflectlite.TypeOf", "(internal/reflectlite.Value).Elem", "(internal/reflectlite.Value).Set"], unfollowed := true, recurses := true, named := ["errors.errorType"], plainKeys := false, apart := false, laid := [("errors.errorType", laid_errors_errorType)], narrowed := true }
def WholeAtomicUptoSaid : Prop := wholeAtomicUptoRow.holds Tryz.pinned (OpenSpec.upto wholeAtomicSpec)

end Rows
end Go.Proofs.YtpepoackmcohlaaGreatDoor
