/- file.wrong: which error Do tells. -/
import Derived.Test.YtfbhmhgmebaoaaaFlGood
import Derived.Test.YtfbhmhgmebaoaaaAb
namespace Go.Proofs.Ytfbhmhgmebaoaaa.Fl
open Go.RowKit
open Go.Proofs.Ytfbhmhgmebaoaaa.Rw (Rd Ow At)

theorem at_int {P : Program} {f : Nat} {args : Array Value} {w : World} {B : Nat} {k : IntKind} {a b : Int} (e : a = b) (c : Calls P f args w fun e w' => e = .returned (.int k a) ∧ Below B w w') : Calls P f args w fun e w' => e = .returned (.int k b) ∧ Below B w w' := by rw [← e]; exact c
theorem ret_int {k : IntKind} {a b : Int} (h : a = b) : Ending.returned (.int k a) = .returned (.int k b) := by rw [h]
theorem needsN_of {op : Int} (h : 0 ≤ op ∧ op ≤ 2) : needsN op = need op := by unfold needsN; rw [if_pos h]
theorem needsN_no {op : Int} (h : ¬ (0 ≤ op ∧ op ≤ 2)) : needsN op = 0 := by unfold needsN; rw [if_neg h]
theorem need_pos (op : Int) : 0 < need op := by unfold need; split <;> (try split) <;> omega

end Go.Proofs.Ytfbhmhgmebaoaaa.Fl
