/-
  NARROWER THAN 'FOR EVERY INPUT', by the rows' own cells (each row's printed sentence says how): FireCodes: laid · FireSafe: laid.
  DERIVED. THE GIVEN ROWS OF THIS SEAT. 2 by the template 'for every input the law returns true; each argument reads behind the call as it read before'; 0 by the template 'total and deterministic' (their statements: YtejibonnjbhcjaaDoorTotals.lean).
  GIVEN WITH THE SEED: the statements are not yours to turn. If you find one false, say at which input.
  Laid BY PROGRAM, IN A SANDBOX (cutbox-rows.mjs): the forced cells as the released guide's own fill.sh prints them over the translation d53d9ccc755ba98b… (all of the seat's roots in one cut). By AI agents, Wed Nov 11 2026. No macro, syntax, notation, axiom, sorry.
-/
import Derived.Test.YtejibonnjbhcjaaDoorChecked
import GoSem.Claim
import GoSem.ClaimJoined
import GoSem.ClaimMapViews
import Derived.JoinedTies
import Derived.KernelRfl
namespace Go.Proofs.YtejibonnjbhcjaaDoor
/- THE CELL 'sum', in the pinned program and in every row, IS THE sha256 OF THE DUMP (.gsa) THAT YtejibonnjbhcjaaDoorProg.lean LOADS. Nothing in Lean hashes anything: it is a label: what it is worth is what the hold of that sum in a sandbox is worth. -/
noncomputable def Tryd.pinned : Pinned := { name := "ytejibonnjbhcjaadoor", sum := "d53d9ccc755ba98bf361fca64416db61b377c3f8926058daab19757a4ec7f711", checked := Tryd.checked }
namespace Rows
def none {H : Type} : Left H := { results := [], args := [] }

/- WHAT THE LISTED PACKAGE-LEVEL VARIABLES READ AS WHEN THE CALL BEGINS. Each datum BY PROGRAM (the guide's laid-datum.mjs) off the statement by which the dump's own 'gosem.cut.vars' lays the variable. In a bare row this is a premise. The card (YtejibonnjbhcjaaDoorCards.lean) ties it to the program's text. -/
def laid_hayward_fire_codes {H : Type} : DataW H := .slice [.lit (.int .u8 85), .lit (.int .u8 51), .lit (.int .u8 15), .lit (.int .u8 102), .lit (.int .u8 90), .lit (.int .u8 60), .lit (.int .u8 105), .lit (.int .u8 150)] []

/-- 'haywardlaw06.FireCodes': WHATEVER THE INPUT: true; the input reads as it did. -/
def fireCodesSpec : ChangeSpec := { name := "fireCodes", fn := fun _ => fun
  | [d1, d2, d3, d4, d5] => { results := [.lit (.bool true)], args := [d1, d2, d3, d4, d5] }
  | _ => none }
def fireCodesRow : OpenClaim := { program := "ytejibonnjbhcjaadoor", sum := "d53d9ccc755ba98bf361fca64416db61b377c3f8926058daab19757a4ec7f711", func := "hayward/haywardlaw06.FireCodes", spec := "fireCodes", named := ["hayward/fire.codes"], apart := false, laid := [("hayward/fire.codes", laid_hayward_fire_codes)] }
def FireCodesSaid : Prop := fireCodesRow.holds Tryd.pinned (OpenSpec.ofChange fireCodesSpec)

/-- ITS FALSE NEIGHBOUR: 'it returns false'. Refute it at one input. -/
def fireCodesWrong : ChangeSpec := { name := "fireCodes", fn := fun _ => fun
  | [d1, d2, d3, d4, d5] => { results := [.lit (.bool false)], args := [d1, d2, d3, d4, d5] }
  | _ => none }
def FireCodesWrongFalsely : Prop := fireCodesRow.holds Tryd.pinned (OpenSpec.ofChange fireCodesWrong)

/-- 'haywardlaw06.FireSafe': WHATEVER THE INPUT: true; the input reads as it did. -/
def fireSafeSpec : ChangeSpec := { name := "fireSafe", fn := fun _ => fun
  | [d1, d2] => { results := [.lit (.bool true)], args := [d1, d2] }
  | _ => none }
def fireSafeRow : OpenClaim := { program := "ytejibonnjbhcjaadoor", sum := "d53d9ccc755ba98bf361fca64416db61b377c3f8926058daab19757a4ec7f711", func := "hayward/haywardlaw06.FireSafe", spec := "fireSafe", named := ["hayward/fire.codes"], apart := false, laid := [("hayward/fire.codes", laid_hayward_fire_codes)] }
def FireSafeSaid : Prop := fireSafeRow.holds Tryd.pinned (OpenSpec.ofChange fireSafeSpec)

/-- ITS FALSE NEIGHBOUR: 'it returns false'. Refute it at one input. -/
def fireSafeWrong : ChangeSpec := { name := "fireSafe", fn := fun _ => fun
  | [d1, d2] => { results := [.lit (.bool false)], args := [d1, d2] }
  | _ => none }
def FireSafeWrongFalsely : Prop := fireSafeRow.holds Tryd.pinned (OpenSpec.ofChange fireSafeWrong)

/- THE SECOND FORM. 'bulk': how many values and letters a reading holds, each counted each time it is reached (what is shared counts as often as it is met; a slice's spare places count too). A statement '..UptoSaid' is the law's where the arguments, and the package variables that the reading takes, are together of bulk at most 1048576: NARROWER than '..Said'. Prove '..Said' where nothing that the law and all that it calls make is longer than what came in: it says more and counts as full. Else prove '..UptoSaid'. A law counts once. -/
mutual
def uptoBulk {H : Type} : DataW H → Nat
  | .lit (.string bytes) => bytes.length + 1
  | .lit _ => 1
  | .nil => 1
  | .ptr d => uptoBulk d + 1
  | .slice elems spare => uptoBulkAll elems + uptoBulkAll spare + 1
  | .agg parts => uptoBulkAll parts + 1
  | .iface _ d => uptoBulk d + 1
  | .map entries => uptoBulkEntries entries + 1
  | .held _ => 1
def uptoBulkAll {H : Type} : List (DataW H) → Nat
  | [] => 0
  | d :: r => uptoBulk d + uptoBulkAll r
def uptoBulkEntries {H : Type} : List (Lit × DataW H) → Nat
  | [] => 0
  | x :: r => uptoBulkEntry x + uptoBulkEntries r
def uptoBulkEntry {H : Type} : Lit × DataW H → Nat
  | (.string bytes, d) => bytes.length + uptoBulk d + 1
  | (_, d) => uptoBulk d + 1
 end
def uptoSmall : (H : Type) → List (DataW H) → Bool := fun _ ds => decide (uptoBulkAll ds ≤ 1048576)
def OpenSpec.upto (s : _root_.Go.ChangeSpec) : _root_.Go.OpenSpec := { _root_.Go.OpenSpec.ofChange s with cond := some uptoSmall }

/-- 'haywardlaw06.FireCodes', WHERE WHAT IT READS IS OF BULK AT MOST 1048576: true; the input reads as it did. -/
def fireCodesUptoRow : OpenClaim := { program := "ytejibonnjbhcjaadoor", sum := "d53d9ccc755ba98bf361fca64416db61b377c3f8926058daab19757a4ec7f711", func := "hayward/haywardlaw06.FireCodes", spec := "fireCodes", named := ["hayward/fire.codes"], apart := false, laid := [("hayward/fire.codes", laid_hayward_fire_codes)], narrowed := true }
def FireCodesUptoSaid : Prop := fireCodesUptoRow.holds Tryd.pinned (OpenSpec.upto fireCodesSpec)

/-- 'haywardlaw06.FireSafe', WHERE WHAT IT READS IS OF BULK AT MOST 1048576: true; the input reads as it did. -/
def fireSafeUptoRow : OpenClaim := { program := "ytejibonnjbhcjaadoor", sum := "d53d9ccc755ba98bf361fca64416db61b377c3f8926058daab19757a4ec7f711", func := "hayward/haywardlaw06.FireSafe", spec := "fireSafe", named := ["hayward/fire.codes"], apart := false, laid := [("hayward/fire.codes", laid_hayward_fire_codes)], narrowed := true }
def FireSafeUptoSaid : Prop := fireSafeUptoRow.holds Tryd.pinned (OpenSpec.upto fireSafeSpec)

end Rows
end Go.Proofs.YtejibonnjbhcjaaDoor
