/-
  No cell of these rows narrows 'for every input' (looked for: loops, veiled, ifaces, maps, wideKeys, modest, calm, conditions, laid).
  DERIVED. THE GIVEN ROWS OF THIS SEAT. 3 by the template 'for every input the law returns true; each argument reads behind the call as it read before'; 0 by the template 'total and deterministic' (their statements: YticdgjohladdlaaTotals.lean).
  GIVEN WITH THE SEED: the statements are not yours to turn. If you find one false, say at which input.
  Laid BY PROGRAM, IN A SANDBOX (cutbox-rows.mjs): the forced cells as the released guide's own fill.sh prints them over the translation 5f59eb41437a2f7c… (all of the seat's roots in one cut). By AI agents, Wed Nov 11 2026. No macro, syntax, notation, axiom, sorry.
-/
import Derived.Test.YticdgjohladdlaaChecked
import GoSem.Claim
import GoSem.ClaimJoined
import GoSem.ClaimMapViews
import Derived.JoinedTies
import Derived.KernelRfl
namespace Go.Proofs.Yticdgjohladdlaa
/- THE CELL 'sum', in the pinned program and in every row, IS THE sha256 OF THE DUMP (.gsa) THAT YticdgjohladdlaaProg.lean LOADS. Nothing in Lean hashes anything: it is a label: what it is worth is what the hold of that sum in a sandbox is worth. -/
noncomputable def Try.pinned : Pinned := { name := "yticdgjohladdlaa", sum := "5f59eb41437a2f7c096001ede606cf60c0f5a6a6b3d916ed5584e8c8e0883e10", checked := Try.checked }
namespace Rows
def none {H : Type} : Left H := { results := [], args := [] }

/-- 'haywardlaw21.ReqPuts': WHATEVER THE INPUT: true; the input reads as it did. -/
def reqPutsSpec : ChangeSpec := { name := "reqPuts", fn := fun _ => fun
  | [d1, d2] => { results := [.lit (.bool true)], args := [d1, d2] }
  | _ => none }
def reqPutsRow : OpenClaim := { program := "yticdgjohladdlaa", sum := "5f59eb41437a2f7c096001ede606cf60c0f5a6a6b3d916ed5584e8c8e0883e10", func := "hayward/haywardlaw21.ReqPuts", spec := "reqPuts", apart := false }
def ReqPutsSaid : Prop := reqPutsRow.holds Try.pinned (OpenSpec.ofChange reqPutsSpec)

/-- ITS FALSE NEIGHBOUR: 'it returns false'. Refute it at one input. -/
def reqPutsWrong : ChangeSpec := { name := "reqPuts", fn := fun _ => fun
  | [d1, d2] => { results := [.lit (.bool false)], args := [d1, d2] }
  | _ => none }
def ReqPutsWrongFalsely : Prop := reqPutsRow.holds Try.pinned (OpenSpec.ofChange reqPutsWrong)

/-- 'haywardlaw21.ReqAnswers': WHATEVER THE INPUT: true; the input reads as it did. -/
def reqAnswersSpec : ChangeSpec := { name := "reqAnswers", fn := fun _ => fun
  | [d1, d2] => { results := [.lit (.bool true)], args := [d1, d2] }
  | _ => none }
def reqAnswersRow : OpenClaim := { program := "yticdgjohladdlaa", sum := "5f59eb41437a2f7c096001ede606cf60c0f5a6a6b3d916ed5584e8c8e0883e10", func := "hayward/haywardlaw21.ReqAnswers", spec := "reqAnswers", apart := false }
def ReqAnswersSaid : Prop := reqAnswersRow.holds Try.pinned (OpenSpec.ofChange reqAnswersSpec)

/-- ITS FALSE NEIGHBOUR: 'it returns false'. Refute it at one input. -/
def reqAnswersWrong : ChangeSpec := { name := "reqAnswers", fn := fun _ => fun
  | [d1, d2] => { results := [.lit (.bool false)], args := [d1, d2] }
  | _ => none }
def ReqAnswersWrongFalsely : Prop := reqAnswersRow.holds Try.pinned (OpenSpec.ofChange reqAnswersWrong)

/-- 'haywardlaw21.ReqRound': WHATEVER THE INPUT: true; the input reads as it did. -/
def reqRoundSpec : ChangeSpec := { name := "reqRound", fn := fun _ => fun
  | [d1, d2, d3] => { results := [.lit (.bool true)], args := [d1, d2, d3] }
  | _ => none }
def reqRoundRow : OpenClaim := { program := "yticdgjohladdlaa", sum := "5f59eb41437a2f7c096001ede606cf60c0f5a6a6b3d916ed5584e8c8e0883e10", func := "hayward/haywardlaw21.ReqRound", spec := "reqRound", apart := false }
def ReqRoundSaid : Prop := reqRoundRow.holds Try.pinned (OpenSpec.ofChange reqRoundSpec)

/-- ITS FALSE NEIGHBOUR: 'it returns false'. Refute it at one input. -/
def reqRoundWrong : ChangeSpec := { name := "reqRound", fn := fun _ => fun
  | [d1, d2, d3] => { results := [.lit (.bool false)], args := [d1, d2, d3] }
  | _ => none }
def ReqRoundWrongFalsely : Prop := reqRoundRow.holds Try.pinned (OpenSpec.ofChange reqRoundWrong)

/- THE SECOND FORM. 'bulk': how many values and letters a reading holds, each counted each time it is reached (what is shared counts as often as it is met; a slice's spare places count too). A statement '..UptoSaid' is the law's where the arguments, and the package variables that the reading takes, are together of bulk at most 1048576: NARROWER than '..Said'. Prove '..Said' where nothing that the law and all that it calls make is longer than what came in: it says more and counts as full. Else prove '..UptoSaid'. A law counts once. -/
mutual
def uptoBulk {H : Type} : DataW H → Nat
  | .lit (.string bytes) => bytes.length + 1
  | .lit _ => 1
  | .nil => 1
  | .ptr d => uptoBulk d + 1
  | .slice elems spare => uptoBulkAll elems + uptoBulkAll spare + 1
  | .agg parts => uptoBulkAll parts + 1
  | .iface _ d => uptoBulk d + 1
  | .map entries => uptoBulkEntries entries + 1
  | .held _ => 1
def uptoBulkAll {H : Type} : List (DataW H) → Nat
  | [] => 0
  | d :: r => uptoBulk d + uptoBulkAll r
def uptoBulkEntries {H : Type} : List (Lit × DataW H) → Nat
  | [] => 0
  | x :: r => uptoBulkEntry x + uptoBulkEntries r
def uptoBulkEntry {H : Type} : Lit × DataW H → Nat
  | (.string bytes, d) => bytes.length + uptoBulk d + 1
  | (_, d) => uptoBulk d + 1
 end
def uptoSmall : (H : Type) → List (DataW H) → Bool := fun _ ds => decide (uptoBulkAll ds ≤ 1048576)
def OpenSpec.upto (s : _root_.Go.ChangeSpec) : _root_.Go.OpenSpec := { _root_.Go.OpenSpec.ofChange s with cond := some uptoSmall }

/-- 'haywardlaw21.ReqPuts', WHERE WHAT IT READS IS OF BULK AT MOST 1048576: true; the input reads as it did. -/
def reqPutsUptoRow : OpenClaim := { program := "yticdgjohladdlaa", sum := "5f59eb41437a2f7c096001ede606cf60c0f5a6a6b3d916ed5584e8c8e0883e10", func := "hayward/haywardlaw21.ReqPuts", spec := "reqPuts", apart := false, narrowed := true }
def ReqPutsUptoSaid : Prop := reqPutsUptoRow.holds Try.pinned (OpenSpec.upto reqPutsSpec)

/-- 'haywardlaw21.ReqAnswers', WHERE WHAT IT READS IS OF BULK AT MOST 1048576: true; the input reads as it did. -/
def reqAnswersUptoRow : OpenClaim := { program := "yticdgjohladdlaa", sum := "5f59eb41437a2f7c096001ede606cf60c0f5a6a6b3d916ed5584e8c8e0883e10", func := "hayward/haywardlaw21.ReqAnswers", spec := "reqAnswers", apart := false, narrowed := true }
def ReqAnswersUptoSaid : Prop := reqAnswersUptoRow.holds Try.pinned (OpenSpec.upto reqAnswersSpec)

/-- 'haywardlaw21.ReqRound', WHERE WHAT IT READS IS OF BULK AT MOST 1048576: true; the input reads as it did. -/
def reqRoundUptoRow : OpenClaim := { program := "yticdgjohladdlaa", sum := "5f59eb41437a2f7c096001ede606cf60c0f5a6a6b3d916ed5584e8c8e0883e10", func := "hayward/haywardlaw21.ReqRound", spec := "reqRound", apart := false, narrowed := true }
def ReqRoundUptoSaid : Prop := reqRoundUptoRow.holds Try.pinned (OpenSpec.upto reqRoundSpec)

end Rows
end Go.Proofs.Yticdgjohladdlaa
