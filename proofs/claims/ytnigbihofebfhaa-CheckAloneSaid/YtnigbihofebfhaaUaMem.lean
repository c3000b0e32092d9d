/- Arrays of eleven bools: as values, in memory, written in one place, handed on and compared. -/
import Derived.Test.YtnigbihofebfhaaUaMath
import Derived.Test.YtnigbihofebfhaaChecked
import Derived.Laws.Rows
import Derived.Deep.WholeRow
import Derived.DeepKeys
import Derived.LoopTactic
import Derived.Outline
import Derived.Deep.LoopGhost
import Derived.Deep.Draws
import Derived.Lib.Hide
namespace Go.Proofs.Ytnigbihofebfhaa.Ua
open Go.RowKit

/-- The eleven cells of a frame. -/
def arr (F : Nat → Bool) : Array Value := #[.bool (F 0), .bool (F 1), .bool (F 2), .bool (F 3), .bool (F 4), .bool (F 5), .bool (F 6), .bool (F 7), .bool (F 8), .bool (F 9), .bool (F 10)]
theorem arr_size (F : Nat → Bool) : (arr F).size = 11 := rfl
theorem arr_one (F : Nat → Bool) : (arr F).all (·.oneCell') = true := by simp [arr, Value.oneCell']
theorem arr_get (F : Nat → Bool) (k : Nat) (h : k < 11) : (arr F)[k]? = some (.bool (F k)) := by
  rcases (by omega : k = 0 ∨ k = 1 ∨ k = 2 ∨ k = 3 ∨ k = 4 ∨ k = 5 ∨ k = 6 ∨ k = 7 ∨ k = 8 ∨ k = 9 ∨ k = 10) with rfl | rfl | rfl | rfl | rfl | rfl | rfl | rfl | rfl | rfl | rfl <;> rfl
theorem arr_set (F : Nat → Bool) (k : Nat) (h : k < 11) (x : Bool) : (arr F).setIfInBounds k (.bool x) = arr (upd F k x) := by
  rcases (by omega : k = 0 ∨ k = 1 ∨ k = 2 ∨ k = 3 ∨ k = 4 ∨ k = 5 ∨ k = 6 ∨ k = 7 ∨ k = 8 ∨ k = 9 ∨ k = 10) with rfl | rfl | rfl | rfl | rfl | rfl | rfl | rfl | rfl | rfl | rfl <;> rfl
theorem arr_congr {F G : Nat → Bool} (h : ∀ i, i < 11 → F i = G i) : arr F = arr G := by
  unfold arr
  rw [h 0 (by omega), h 1 (by omega), h 2 (by omega), h 3 (by omega), h 4 (by omega), h 5 (by omega), h 6 (by omega), h 7 (by omega), h 8 (by omega), h 9 (by omega), h 10 (by omega)]

section
variable {w w' : World} {g : Nat} {F : Nat → Bool}
end
theorem below_setRow {B : Nat} {a w : World} (h : Below B a w) (g : Nat) (cs : Array Value) (hg : B ≤ g) : Below B a (w.setRow g cs) :=
  ⟨h.os, h.tape, h.output, by rw [size_setRow]; exact h.size, fun k hk => (setRow_other w g k cs (by omega)).trans (h.block k hk)⟩

theorem ret_bool {a b : Bool} (h : a = b) : Ending.returned (.bool a) = .returned (.bool b) := by rw [h]
theorem ret_int {k : IntKind} {a b : Int} (h : a = b) : Ending.returned (.int k a) = .returned (.int k b) := by rw [h]
theorem ret_arr {F G : Nat → Bool} (h : ∀ i, i < 11 → F i = G i) : Ending.returned (.agg (arr F)) = .returned (.agg (arr G)) := by rw [arr_congr h]
theorem at_frame {P : Program} {f : Nat} {args : Array Value} {w : World} {F G : Nat → Bool} (e : ∀ i, i < 11 → F i = G i) (c : Calls P f args w fun e w' => e = .returned (.agg (arr F)) ∧ Below w.heap.size w w') : Calls P f args w fun e w' => e = .returned (.agg (arr G)) ∧ Below w.heap.size w w' := by rw [← arr_congr e]; exact c
theorem at_three {P : Program} {f : Nat} {args : Array Value} {w : World} {a c a' c' : Int} {p b' : Bool} (e1 : a = a') (e2 : p = b') (e3 : c = c') (h : Calls P f args w fun e w' => e = .returned (.tuple #[.int .u8 a, .bool p, .int .i64 c]) ∧ Below w.heap.size w w') :
    Calls P f args w fun e w' => e = .returned (.tuple #[.int .u8 a', .bool b', .int .i64 c']) ∧ Below w.heap.size w w' := by rw [← e1, ← e2, ← e3]; exact h

end Go.Proofs.Ytnigbihofebfhaa.Ua
