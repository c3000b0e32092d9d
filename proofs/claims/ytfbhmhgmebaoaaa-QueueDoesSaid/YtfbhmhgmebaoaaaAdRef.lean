/- Layer 8: what an address's bytes are, and a byte pair's address; the document's own functions. -/
import Derived.Test.YtfbhmhgmebaoaaaChecked
import Derived.WalkKit
import Derived.LoopTactic
import Derived.Outline
import Derived.Deep.Draws
import Derived.DeepKeys
import Derived.Laws.ResultCell
import Derived.Lib.Hide
namespace Go.Proofs.Ytfbhmhgmebaoaaa.Ad
open Go.RowKit

def good (o f r : Int) : Prop := 0 ≤ o ∧ o ≤ 2 ∧ 0 ≤ f ∧ f ≤ 63 ∧ 0 ≤ r ∧ r ≤ 255
instance (o f r : Int) : Decidable (good o f r) := by unfold good; infer_instance
def goodB (o f r : Int) : Bool := decide (good o f r)
/-- An address as a value; a pair of bytes. -/
def addr (o f r : Int) : Value := .agg #[.int .i64 o, .int .i64 f, .int .i64 r]
def pair (a b : Int) : Value := .agg #[.int .u8 a, .int .u8 b]
theorem ret_bool {a b : Bool} (h : a = b) : Ending.returned (.bool a) = .returned (.bool b) := by rw [h]

/-- What an address's bytes are, and the error. -/
def PutPost (w : World) (o f r : Int) (e : Ending) (w' : World) : Prop := (good o f r ∧ e = .returned (.tuple #[pair (64 * o + f) r, .int .i64 0]) ∨ ¬ good o f r ∧ e = .returned (.tuple #[pair 0 0, .int .i64 1])) ∧ Below w.heap.size w w'
def TakePost (w : World) (a b : Int) (e : Ending) (w' : World) : Prop := (a < 192 ∧ e = .returned (.tuple #[addr (a / 64) (a % 64) b, .int .i64 0]) ∨ 192 ≤ a ∧ e = .returned (.tuple #[addr 0 0 0, .int .i64 2])) ∧ Below w.heap.size w w'

theorem at_bool {P : Program} {f : Nat} {args : Array Value} {w : World} {B : Nat} {a b : Bool} (e : a = b) (c : Calls P f args w fun e w' => e = .returned (.bool a) ∧ Below B w w') : Calls P f args w fun e w' => e = .returned (.bool b) ∧ Below B w w' := by rw [← e]; exact c

end Go.Proofs.Ytfbhmhgmebaoaaa.Ad
