/- The fixed fact of layer 3: that it is true. -/
import Derived.Test.YtkhgaacokbebiaaUaRef
namespace Go.Proofs.Ytkhgaacokbebiaa.Ua
open Go.RowKit

/-- Two frames that are one are equal to Go. -/
theorem key_arr (F : Nat → Bool) : ∃ l, keyOf Try.prog 25 (.agg (arr F)) = some l := Option.isSome_iff_exists.1 (by kernel_rfl)
theorem eq_same (F : Nat → Bool) (w : World) : (Op.equalIn 10000 25 (.agg (arr F)) (.agg (arr F))).run Try.prog w = .ok true w := by
  obtain ⟨l, hl⟩ := key_arr F
  obtain ⟨r, hr, hiff⟩ := run_equal_deep (P := Try.prog) w (m := 2) (by omega) (by kernel_rfl) (by kernel_rfl) hl hl
  rw [hiff.2 rfl] at hr
  exact hr

theorem at_frame {P : Program} {f : Nat} {args : Array Value} {w : World} {F G : Nat → Bool} (e : ∀ i, i < 11 → F i = G i) (c : Calls P f args w fun e w' => e = .returned (.agg (arr F)) ∧ Below w.heap.size w w') : Calls P f args w fun e w' => e = .returned (.agg (arr G)) ∧ Below w.heap.size w w' := by rw [← arr_congr e]; exact c
theorem at_three {P : Program} {f : Nat} {args : Array Value} {w : World} {a c a' c' : Int} {p b' : Bool} (e1 : a = a') (e2 : p = b') (e3 : c = c') (h : Calls P f args w fun e w' => e = .returned (.tuple #[.int .u8 a, .bool p, .int .i64 c]) ∧ Below w.heap.size w w') :
    Calls P f args w fun e w' => e = .returned (.tuple #[.int .u8 a', .bool b', .int .i64 c']) ∧ Below w.heap.size w w' := by rw [← e1, ← e2, ← e3]; exact h

/-- The document's example. -/
def ex : Nat → Bool := fun i => i = 1 || i = 9 || i = 10
theorem frm_ex (i : Nat) (h : i < 11) : frm 1 false i = ex i := by
  rcases (by omega : i = 0 ∨ i = 1 ∨ i = 2 ∨ i = 3 ∨ i = 4 ∨ i = 5 ∨ i = 6 ∨ i = 7 ∨ i = 8 ∨ i = 9 ∨ i = 10) with rfl | rfl | rfl | rfl | rfl | rfl | rfl | rfl | rfl | rfl | rfl <;> decide +kernel
theorem bad_ex : bad (turn ex 1 11) = true := by decide +kernel

end Go.Proofs.Ytkhgaacokbebiaa.Ua
