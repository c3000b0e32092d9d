/-
  NARROWER THAN 'FOR EVERY INPUT', by the rows' own cells (each row's printed sentence says how): ClusterDoes: laid · ClusterDrifts: laid · ClusterDown: laid · ClusterServes: laid · WholeAtomic: laid · WholeCopies: laid · WholeApart: laid · WholeBit: laid · WholeNames: laid.
  DERIVED. THE GIVEN ROWS OF THIS SEAT. 9 by the template 'for every input the law returns true; each argument reads behind the call as it read before'; 0 by the template 'total and deterministic' (their statements: YtljnkaodhfnbbaaGreatDoorTotals.lean).
  GIVEN WITH THE SEED: the statements are not yours to turn. If you find one false, say at which input.
  Laid BY PROGRAM, IN A SANDBOX (cutbox-rows.mjs): the forced cells as the released guide's own fill.sh prints them over the translation f5a50a3831942242… (all of the seat's roots in one cut). By AI agents, Wed Nov 11 2026. No macro, syntax, notation, axiom, sorry.
-/
import Derived.Test.YtljnkaodhfnbbaaGreatDoorChecked
import GoSem.Claim
import GoSem.ClaimJoined
import GoSem.ClaimMapViews
import Derived.JoinedTies
import Derived.KernelRfl
namespace Go.Proofs.YtljnkaodhfnbbaaGreatDoor
/- THE CELL 'sum', in the pinned program and in every row, IS THE sha256 OF THE DUMP (.gsa) THAT YtljnkaodhfnbbaaGreatDoorProg.lean LOADS. Nothing in Lean hashes anything: it is a label: what it is worth is what the hold of that sum in a sandbox is worth. -/
noncomputable def Tryz.pinned : Pinned := { name := "ytljnkaodhfnbbaagreatdoor", sum := "f5a50a383194224215ccce728fea4174f706f8ec26e38f93432cbad532b8f007", checked := Tryz.checked }
namespace Rows
def none {H : Type} : Left H := { results := [], args := [] }

/- WHAT THE LISTED PACKAGE-LEVEL VARIABLES READ AS WHEN THE CALL BEGINS. Each datum BY PROGRAM (the guide's laid-datum.mjs) off the statement by which the dump's own 'gosem.cut.vars' lays the variable. In a bare row this is a premise. The card (YtljnkaodhfnbbaaGreatDoorCards.lean) ties it to the program's text. -/
def laid_errors_errorType {H : Type} : DataW H := .iface "internal/reflectlite.rtype" (.agg [.ptr (.lit (.string [101, 114, 114, 111, 114]))])
def laid_hayward_fire_codes {H : Type} : DataW H := .slice [.lit (.int .u8 85), .lit (.int .u8 51), .lit (.int .u8 15), .lit (.int .u8 102), .lit (.int .u8 90), .lit (.int .u8 60), .lit (.int .u8 105), .lit (.int .u8 150)] []

/-- 'haywardlaw20.ClusterDoes': WHATEVER THE INPUT: true; the input reads as it did. -/
def clusterDoesSpec : ChangeSpec := { name := "clusterDoes", fn := fun _ => fun
  | [d1, d2] => { results := [.lit (.bool true)], args := [d1, d2] }
  | _ => none }
def clusterDoesRow : OpenClaim := { program := "ytljnkaodhfnbbaagreatdoor", sum := "f5a50a383194224215ccce728fea4174f706f8ec26e38f93432cbad532b8f007", func := "hayward/haywardlaw20.ClusterDoes", spec := "clusterDoes", inPlace := ["internal/reflectlite.ValueOf", "(internal/reflectlite.Value).Type", "(internal/reflectlite.Value).IsNil", "internal/reflectlite.TypeOf", "(internal/reflectlite.Value).Elem", "(internal/reflectlite.Value).Set"], unfollowed := true, recurses := true, named := ["errors.errorType"], plainKeys := false, apart := false, laid := [("errors.errorType", laid_errors_errorType)] }
def ClusterDoesSaid : Prop := clusterDoesRow.holds Tryz.pinned (OpenSpec.ofChange clusterDoesSpec)

/-- ITS FALSE NEIGHBOUR: 'it returns false'. Refute it at one input. -/
def clusterDoesWrong : ChangeSpec := { name := "clusterDoes", fn := fun _ => fun
  | [d1, d2] => { results := [.lit (.bool false)], args := [d1, d2] }
  | _ => none }
def ClusterDoesWrongFalsely : Prop := clusterDoesRow.holds Tryz.pinned (OpenSpec.ofChange clusterDoesWrong)

/-- 'haywardlaw20.ClusterDrifts': WHATEVER THE INPUT: true; the input reads as it did. -/
def clusterDriftsSpec : ChangeSpec := { name := "clusterDrifts", fn := fun _ => fun
  | [d1, d2, d3] => { results := [.lit (.bool true)], args := [d1, d2, d3] }
  | _ => none }
def clusterDriftsRow : OpenClaim := { program := "ytljnkaodhfnbbaagreatdoor", sum := "f5a50a383194224215ccce728fea4174f706f8ec26e38f93432cbad532b8f007", func := "hayward/haywardlaw20.ClusterDrifts", spec := "clusterDrifts", inPlace := ["internal/reflectlite.ValueOf", "(internal/reflectlite.Value).Type", "(internal/reflectlite.Value).IsNil", "internal/reflectlite.TypeOf", "(internal/reflectlite.Value).Elem", "(internal/reflectlite.Value).Set"], unfollowed := true, recurses := true, named := ["errors.errorType"], plainKeys := false, apart := false, laid := [("errors.errorType", laid_errors_errorType)] }
def ClusterDriftsSaid : Prop := clusterDriftsRow.holds Tryz.pinned (OpenSpec.ofChange clusterDriftsSpec)

/-- ITS FALSE NEIGHBOUR: 'it returns false'. Refute it at one input. -/
def clusterDriftsWrong : ChangeSpec := { name := "clusterDrifts", fn := fun _ => fun
  | [d1, d2, d3] => { results := [.lit (.bool false)], args := [d1, d2, d3] }
  | _ => none }
def ClusterDriftsWrongFalsely : Prop := clusterDriftsRow.holds Tryz.pinned (OpenSpec.ofChange clusterDriftsWrong)

/-- 'haywardlaw20.ClusterDown': WHATEVER THE INPUT: true; the input reads as it did. -/
def clusterDownSpec : ChangeSpec := { name := "clusterDown", fn := fun _ => fun
  | [d1, d2, d3, d4] => { results := [.lit (.bool true)], args := [d1, d2, d3, d4] }
  | _ => none }
def clusterDownRow : OpenClaim := { program := "ytljnkaodhfnbbaagreatdoor", sum := "f5a50a383194224215ccce728fea4174f706f8ec26e38f93432cbad532b8f007", func := "hayward/haywardlaw20.ClusterDown", spec := "clusterDown", inPlace := ["internal/reflectlite.ValueOf", "(internal/reflectlite.Value).Type", "(internal/reflectlite.Value).IsNil", "internal/reflectlite.TypeOf", "(internal/reflectlite.Value).Elem", "(internal/reflectlite.Value).Set"], unfollowed := true, recurses := true, named := ["errors.errorType"], plainKeys := false, apart := false, laid := [("errors.errorType", laid_errors_errorType)] }
def ClusterDownSaid : Prop := clusterDownRow.holds Tryz.pinned (OpenSpec.ofChange clusterDownSpec)

/-- ITS FALSE NEIGHBOUR: 'it returns false'. Refute it at one input. -/
def clusterDownWrong : ChangeSpec := { name := "clusterDown", fn := fun _ => fun
  | [d1, d2, d3, d4] => { results := [.lit (.bool false)], args := [d1, d2, d3, d4] }
  | _ => none }
def ClusterDownWrongFalsely : Prop := clusterDownRow.holds Tryz.pinned (OpenSpec.ofChange clusterDownWrong)

/-- 'haywardlaw20.ClusterServes': WHATEVER THE INPUT: true; the input reads as it did. -/
def clusterServesSpec : ChangeSpec := { name := "clusterServes", fn := fun _ => fun
  | [d1, d2, d3, d4, d5] => { results := [.lit (.bool true)], args := [d1, d2, d3, d4, d5] }
  | _ => none }
def clusterServesRow : OpenClaim := { program := "ytljnkaodhfnbbaagreatdoor", sum := "f5a50a383194224215ccce728fea4174f706f8ec26e38f93432cbad532b8f007", func := "hayward/haywardlaw20.ClusterServes", spec := "clusterServes", inPlace := ["internal/reflectlite.ValueOf", "(internal/reflectlite.Value).Type", "(internal/reflectlite.Value).IsNil", "internal/reflectlite.TypeOf", "(internal/reflectlite.Value).Elem", "(internal/reflectlite.Value).Set"], unfollowed := true, recurses := true, named := ["errors.errorType"], plainKeys := false, apart := false, laid := [("errors.errorType", laid_errors_errorType)] }
def ClusterServesSaid : Prop := clusterServesRow.holds Tryz.pinned (OpenSpec.ofChange clusterServesSpec)

/-- ITS FALSE NEIGHBOUR: 'it returns false'. Refute it at one input. -/
def clusterServesWrong : ChangeSpec := { name := "clusterServes", fn := fun _ => fun
  | [d1, d2, d3, d4, d5] => { results := [.lit (.bool false)], args := [d1, d2, d3, d4, d5] }
  | _ => none }
def ClusterServesWrongFalsely : Prop := clusterServesRow.holds Tryz.pinned (OpenSpec.ofChange clusterServesWrong)

/-- 'haywardtop.WholeAtomic': WHATEVER THE INPUT: true; the input reads as it did. -/
def wholeAtomicSpec : ChangeSpec := { name := "wholeAtomic", fn := fun _ => fun
  | [d1, d2] => { results := [.lit (.bool true)], args := [d1, d2] }
  | _ => none }
def wholeAtomicRow : OpenClaim := { program := "ytljnkaodhfnbbaagreatdoor", sum := "f5a50a383194224215ccce728fea4174f706f8ec26e38f93432cbad532b8f007", func := "hayward/haywardtop.WholeAtomic", spec := "wholeAtomic", inPlace := ["internal/reflectlite.ValueOf", "(internal/reflectlite.Value).Type", "(internal/reflectlite.Value).IsNil", "internal/reflectlite.TypeOf", "(internal/reflectlite.Value).Elem", "(internal/reflectlite.Value).Set"], unfollowed := true, recurses := true, named := ["errors.errorType"], plainKeys := false, apart := false, laid := [("errors.errorType", laid_errors_errorType)] }
def WholeAtomicSaid : Prop := wholeAtomicRow.holds Tryz.pinned (OpenSpec.ofChange wholeAtomicSpec)

/-- ITS FALSE NEIGHBOUR: 'it returns false'. Refute it at one input. -/
def wholeAtomicWrong : ChangeSpec := { name := "wholeAtomic", fn := fun _ => fun
  | [d1, d2] => { results := [.lit (.bool false)], args := [d1, d2] }
  | _ => none }
def WholeAtomicWrongFalsely : Prop := wholeAtomicRow.holds Tryz.pinned (OpenSpec.ofChange wholeAtomicWrong)

/-- 'haywardtop.WholeCopies': WHATEVER THE INPUT: true; the input reads as it did. -/
def wholeCopiesSpec : ChangeSpec := { name := "wholeCopies", fn := fun _ => fun
  | [d1, d2] => { results := [.lit (.bool true)], args := [d1, d2] }
  | _ => none }
def wholeCopiesRow : OpenClaim := { program := "ytljnkaodhfnbbaagreatdoor", sum := "f5a50a383194224215ccce728fea4174f706f8ec26e38f93432cbad532b8f007", func := "hayward/haywardtop.WholeCopies", spec := "wholeCopies", inPlace := ["internal/reflectlite.TypeOf", "internal/reflectlite.ValueOf", "(internal/reflectlite.Value).Type", "(internal/reflectlite.Value).IsNil", "(internal/reflectlite.Value).Elem", "(internal/reflectlite.Value).Set"], unfollowed := true, recurses := true, named := ["errors.errorType"], plainKeys := false, apart := false, laid := [("errors.errorType", laid_errors_errorType)] }
def WholeCopiesSaid : Prop := wholeCopiesRow.holds Tryz.pinned (OpenSpec.ofChange wholeCopiesSpec)

/-- ITS FALSE NEIGHBOUR: 'it returns false'. Refute it at one input. -/
def wholeCopiesWrong : ChangeSpec := { name := "wholeCopies", fn := fun _ => fun
  | [d1, d2] => { results := [.lit (.bool false)], args := [d1, d2] }
  | _ => none }
def WholeCopiesWrongFalsely : Prop := wholeCopiesRow.holds Tryz.pinned (OpenSpec.ofChange wholeCopiesWrong)

/-- 'haywardtop.WholeApart': WHATEVER THE INPUT: true; the input reads as it did. -/
def wholeApartSpec : ChangeSpec := { name := "wholeApart", fn := fun _ => fun
  | [d1, d2, d3] => { results := [.lit (.bool true)], args := [d1, d2, d3] }
  | _ => none }
def wholeApartRow : OpenClaim := { program := "ytljnkaodhfnbbaagreatdoor", sum := "f5a50a383194224215ccce728fea4174f706f8ec26e38f93432cbad532b8f007", func := "hayward/haywardtop.WholeApart", spec := "wholeApart", inPlace := ["internal/reflectlite.TypeOf", "internal/reflectlite.ValueOf", "(internal/reflectlite.Value).Type", "(internal/reflectlite.Value).IsNil", "(internal/reflectlite.Value).Elem", "(internal/reflectlite.Value).Set"], unfollowed := true, recurses := true, named := ["errors.errorType"], plainKeys := false, apart := false, laid := [("errors.errorType", laid_errors_errorType)] }
def WholeApartSaid : Prop := wholeApartRow.holds Tryz.pinned (OpenSpec.ofChange wholeApartSpec)

/-- ITS FALSE NEIGHBOUR: 'it returns false'. Refute it at one input. -/
def wholeApartWrong : ChangeSpec := { name := "wholeApart", fn := fun _ => fun
  | [d1, d2, d3] => { results := [.lit (.bool false)], args := [d1, d2, d3] }
  | _ => none }
def WholeApartWrongFalsely : Prop := wholeApartRow.holds Tryz.pinned (OpenSpec.ofChange wholeApartWrong)

/-- 'haywardtop.WholeBit': WHATEVER THE INPUT: true; the input reads as it did. -/
def wholeBitSpec : ChangeSpec := { name := "wholeBit", fn := fun _ => fun
  | [d1, d2, d3, d4, d5, d6, d7] => { results := [.lit (.bool true)], args := [d1, d2, d3, d4, d5, d6, d7] }
  | _ => none }
def wholeBitRow : OpenClaim := { program := "ytljnkaodhfnbbaagreatdoor", sum := "f5a50a383194224215ccce728fea4174f706f8ec26e38f93432cbad532b8f007", func := "hayward/haywardtop.WholeBit", spec := "wholeBit", inPlace := ["internal/reflectlite.ValueOf", "(internal/reflectlite.Value).Type", "(internal/reflectlite.Value).IsNil", "internal/reflectlite.TypeOf", "(internal/reflectlite.Value).Elem", "(internal/reflectlite.Value).Set"], unfollowed := true, recurses := true, named := ["errors.errorType", "hayward/fire.codes"], plainKeys := false, apart := false, laid := [("hayward/fire.codes", laid_hayward_fire_codes), ("errors.errorType", laid_errors_errorType)] }
def WholeBitSaid : Prop := wholeBitRow.holds Tryz.pinned (OpenSpec.ofChange wholeBitSpec)

/-- ITS FALSE NEIGHBOUR: 'it returns false'. Refute it at one input. -/
def wholeBitWrong : ChangeSpec := { name := "wholeBit", fn := fun _ => fun
  | [d1, d2, d3, d4, d5, d6, d7] => { results := [.lit (.bool false)], args := [d1, d2, d3, d4, d5, d6, d7] }
  | _ => none }
def WholeBitWrongFalsely : Prop := wholeBitRow.holds Tryz.pinned (OpenSpec.ofChange wholeBitWrong)

/-- 'haywardtop.WholeNames': WHATEVER THE INPUT: true; the input reads as it did. -/
def wholeNamesSpec : ChangeSpec := { name := "wholeNames", fn := fun _ => fun
  | [d1, d2, d3] => { results := [.lit (.bool true)], args := [d1, d2, d3] }
  | _ => none }
def wholeNamesRow : OpenClaim := { program := "ytljnkaodhfnbbaagreatdoor", sum := "f5a50a383194224215ccce728fea4174f706f8ec26e38f93432cbad532b8f007", func := "hayward/haywardtop.WholeNames", spec := "wholeNames", inPlace := ["internal/reflectlite.ValueOf", "(internal/reflectlite.Value).Type", "(internal/reflectlite.Value).IsNil", "internal/reflectlite.TypeOf", "(internal/reflectlite.Value).Elem", "(internal/reflectlite.Value).Set"], unfollowed := true, recurses := true, named := ["errors.errorType"], plainKeys := false, apart := false, laid := [("errors.errorType", laid_errors_errorType)] }
def WholeNamesSaid : Prop := wholeNamesRow.holds Tryz.pinned (OpenSpec.ofChange wholeNamesSpec)

/-- ITS FALSE NEIGHBOUR: 'it returns false'. Refute it at one input. -/
def wholeNamesWrong : ChangeSpec := { name := "wholeNames", fn := fun _ => fun
  | [d1, d2, d3] => { results := [.lit (.bool false)], args := [d1, d2, d3] }
  | _ => none }
def WholeNamesWrongFalsely : Prop := wholeNamesRow.holds Tryz.pinned (OpenSpec.ofChange wholeNamesWrong)

/- THE SECOND FORM. 'bulk': how many values and letters a reading holds, each counted each time it is reached (what is shared counts as often as it is met; a slice's spare places count too). A statement '..UptoSaid' is the law's where the arguments, and the package variables that the reading takes, are together of bulk at most 1048576: NARROWER than '..Said'. Prove '..Said' where nothing that the law and all that it calls make is longer than what came in: it says more and counts as full. Else prove '..UptoSaid'. A law counts once. -/
mutual
def uptoBulk {H : Type} : DataW H → Nat
  | .lit (.string bytes) => bytes.length + 1
  | .lit _ => 1
  | .nil => 1
  | .ptr d => uptoBulk d + 1
  | .slice elems spare => uptoBulkAll elems + uptoBulkAll spare + 1
  | .agg parts => uptoBulkAll parts + 1
  | .iface _ d => uptoBulk d + 1
  | .map entries => uptoBulkEntries entries + 1
  | .held _ => 1
def uptoBulkAll {H : Type} : List (DataW H) → Nat
  | [] => 0
  | d :: r => uptoBulk d + uptoBulkAll r
def uptoBulkEntries {H : Type} : List (Lit × DataW H) → Nat
  | [] => 0
  | x :: r => uptoBulkEntry x + uptoBulkEntries r
def uptoBulkEntry {H : Type} : Lit × DataW H → Nat
  | (.string bytes, d) => bytes.length + uptoBulk d + 1
  | (_, d) => uptoBulk d + 1
 end
def uptoSmall : (H : Type) → List (DataW H) → Bool := fun _ ds => decide (uptoBulkAll ds ≤ 1048576)
def OpenSpec.upto (s : _root_.Go.ChangeSpec) : _root_.Go.OpenSpec := { _root_.Go.OpenSpec.ofChange s with cond := some uptoSmall }

/-- 'haywardlaw20.ClusterDoes', WHERE WHAT IT READS IS OF BULK AT MOST 1048576: true; the input reads as it did. -/
def clusterDoesUptoRow : OpenClaim := { program := "ytljnkaodhfnbbaagreatdoor", sum := "f5a50a383194224215ccce728fea4174f706f8ec26e38f93432cbad532b8f007", func := "hayward/haywardlaw20.ClusterDoes", spec := "clusterDoes", inPlace := ["internal/reflectlite.ValueOf", "(internal/reflectlite.Value).Type", "(internal/reflectlite.Value).IsNil", "internal/reflectlite.TypeOf", "(internal/reflectlite.Value).Elem", "(internal/reflectlite.Value).Set"], unfollowed := true, recurses := true, named := ["errors.errorType"], plainKeys := false, apart := false, laid := [("errors.errorType", laid_errors_errorType)], narrowed := true }
def ClusterDoesUptoSaid : Prop := clusterDoesUptoRow.holds Tryz.pinned (OpenSpec.upto clusterDoesSpec)

/-- 'haywardlaw20.ClusterDrifts', WHERE WHAT IT READS IS OF BULK AT MOST 1048576: true; the input reads as it did. -/
def clusterDriftsUptoRow : OpenClaim := { program := "ytljnkaodhfnbbaagreatdoor", sum := "f5a50a383194224215ccce728fea4174f706f8ec26e38f93432cbad532b8f007", func := "hayward/haywardlaw20.ClusterDrifts", spec := "clusterDrifts", inPlace := ["internal/reflectlite.ValueOf", "(internal/reflectlite.Value).Type", "(internal/reflectlite.Value).IsNil", "internal/reflectlite.TypeOf", "(internal/reflectlite.Value).Elem", "(internal/reflectlite.Value).Set"], unfollowed := true, recurses := true, named := ["errors.errorType"], plainKeys := false, apart := false, laid := [("errors.errorType", laid_errors_errorType)], narrowed := true }
def ClusterDriftsUptoSaid : Prop := clusterDriftsUptoRow.holds Tryz.pinned (OpenSpec.upto clusterDriftsSpec)

/-- 'haywardlaw20.ClusterDown', WHERE WHAT IT READS IS OF BULK AT MOST 1048576: true; the input reads as it did. -/
def clusterDownUptoRow : OpenClaim := { program := "ytljnkaodhfnbbaagreatdoor", sum := "f5a50a383194224215ccce728fea4174f706f8ec26e38f93432cbad532b8f007", func := "hayward/haywardlaw20.ClusterDown", spec := "clusterDown", inPlace := ["internal/reflectlite.ValueOf", "(internal/reflectlite.Value).Type", "(internal/reflectlite.Value).IsNil", "internal/reflectlite.TypeOf", "(internal/reflectlite.Value).Elem", "(internal/reflectlite.Value).Set"], unfollowed := true, recurses := true, named := ["errors.errorType"], plainKeys := false, apart := false, laid := [("errors.errorType", laid_errors_errorType)], narrowed := true }
def ClusterDownUptoSaid : Prop := clusterDownUptoRow.holds Tryz.pinned (OpenSpec.upto clusterDownSpec)

/-- 'haywardlaw20.ClusterServes', WHERE WHAT IT READS IS OF BULK AT MOST 1048576: true; the input reads as it did. -/
def clusterServesUptoRow : OpenClaim := { program := "ytljnkaodhfnbbaagreatdoor", sum := "f5a50a383194224215ccce728fea4174f706f8ec26e38f93432cbad532b8f007", func := "hayward/haywardlaw20.ClusterServes", spec := "clusterServes", inPlace := ["internal/reflectlite.ValueOf", "(internal/reflectlite.Value).Type", "(internal/reflectlite.Value).IsNil", "internal/reflectlite.TypeOf", "(internal/reflectlite.Value).Elem", "(internal/reflectlite.Value).Set"], unfollowed := true, recurses := true, named := ["errors.errorType"], plainKeys := false, apart := false, laid := [("errors.errorType", laid_errors_errorType)], narrowed := true }
def ClusterServesUptoSaid : Prop := clusterServesUptoRow.holds Tryz.pinned (OpenSpec.upto clusterServesSpec)

/-- 'haywardtop.WholeAtomic', WHERE WHAT IT READS IS OF BULK AT MOST 1048576: true; the input reads as it did. -/
def wholeAtomicUptoRow : OpenClaim := { program := "ytljnkaodhfnbbaagreatdoor", sum := "f5a50a383194224215ccce728fea4174f706f8ec26e38f93432cbad532b8f007", func := "hayward/haywardtop.WholeAtomic", spec := "wholeAtomic", inPlace := ["internal/reflectlite.ValueOf", "(internal/reflectlite.Value).Type", "(internal/reflectlite.Value).IsNil", "internal/reflectlite.TypeOf", "(internal/reflectlite.Value).Elem", "(internal/reflectlite.Value).Set"], unfollowed := true, recurses := true, named := ["errors.errorType"], plainKeys := false, apart := false, laid := [("errors.errorType", laid_errors_errorType)], narrowed := true }
def WholeAtomicUptoSaid : Prop := wholeAtomicUptoRow.holds Tryz.pinned (OpenSpec.upto wholeAtomicSpec)

/-- 'haywardtop.WholeCopies', WHERE WHAT IT READS IS OF BULK AT MOST 1048576: true; the input reads as it did. -/
def wholeCopiesUptoRow : OpenClaim := { program := "ytljnkaodhfnbbaagreatdoor", sum := "f5a50a383194224215ccce728fea4174f706f8ec26e38f93432cbad532b8f007", func := "hayward/haywardtop.WholeCopies", spec := "wholeCopies", inPlace := ["internal/reflectlite.TypeOf", "internal/reflectlite.ValueOf", "(internal/reflectlite.Value).Type", "(internal/reflectlite.Value).IsNil", "(internal/reflectlite.Value).Elem", "(internal/reflectlite.Value).Set"], unfollowed := true, recurses := true, named := ["errors.errorType"], plainKeys := false, apart := false, laid := [("errors.errorType", laid_errors_errorType)], narrowed := true }
def WholeCopiesUptoSaid : Prop := wholeCopiesUptoRow.holds Tryz.pinned (OpenSpec.upto wholeCopiesSpec)

/-- 'haywardtop.WholeApart', WHERE WHAT IT READS IS OF BULK AT MOST 1048576: true; the input reads as it did. -/
def wholeApartUptoRow : OpenClaim := { program := "ytljnkaodhfnbbaagreatdoor", sum := "f5a50a383194224215ccce728fea4174f706f8ec26e38f93432cbad532b8f007", func := "hayward/haywardtop.WholeApart", spec := "wholeApart", inPlace := ["internal/reflectlite.TypeOf", "internal/reflectlite.ValueOf", "(internal/reflectlite.Value).Type", "(internal/reflectlite.Value).IsNil", "(internal/reflectlite.Value).Elem", "(internal/reflectlite.Value).Set"], unfollowed := true, recurses := true, named := ["errors.errorType"], plainKeys := false, apart := false, laid := [("errors.errorType", laid_errors_errorType)], narrowed := true }
def WholeApartUptoSaid : Prop := wholeApartUptoRow.holds Tryz.pinned (OpenSpec.upto wholeApartSpec)

/-- 'haywardtop.WholeBit', WHERE WHAT IT READS IS OF BULK AT MOST 1048576: true; the input reads as it did. -/
def wholeBitUptoRow : OpenClaim := { program := "ytljnkaodhfnbbaagreatdoor", sum := "f5a50a383194224215ccce728fea4174f706f8ec26e38f93432cbad532b8f007", func := "hayward/haywardtop.WholeBit", spec := "wholeBit", inPlace := ["internal/reflectlite.ValueOf", "(internal/reflectlite.Value).Type", "(internal/reflectlite.Value).IsNil", "internal/reflectlite.TypeOf", "(internal/reflectlite.Value).Elem", "(internal/reflectlite.Value).Set"], unfollowed := true, recurses := true, named := ["errors.errorType", "hayward/fire.codes"], plainKeys := false, apart := false, laid := [("hayward/fire.codes", laid_hayward_fire_codes), ("errors.errorType", laid_errors_errorType)], narrowed := true }
def WholeBitUptoSaid : Prop := wholeBitUptoRow.holds Tryz.pinned (OpenSpec.upto wholeBitSpec)

/-- 'haywardtop.WholeNames', WHERE WHAT IT READS IS OF BULK AT MOST 1048576: true; the input reads as it did. -/
def wholeNamesUptoRow : OpenClaim := { program := "ytljnkaodhfnbbaagreatdoor", sum := "f5a50a383194224215ccce728fea4174f706f8ec26e38f93432cbad532b8f007", func := "hayward/haywardtop.WholeNames", spec := "wholeNames", inPlace := ["internal/reflectlite.ValueOf", "(internal/reflectlite.Value).Type", "(internal/reflectlite.Value).IsNil", "internal/reflectlite.TypeOf", "(internal/reflectlite.Value).Elem", "(internal/reflectlite.Value).Set"], unfollowed := true, recurses := true, named := ["errors.errorType"], plainKeys := false, apart := false, laid := [("errors.errorType", laid_errors_errorType)], narrowed := true }
def WholeNamesUptoSaid : Prop := wholeNamesUptoRow.holds Tryz.pinned (OpenSpec.upto wholeNamesSpec)

end Rows
end Go.Proofs.YtljnkaodhfnbbaaGreatDoor
