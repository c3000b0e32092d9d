/- uart.Take: a frame's byte, and whether its parity is odd. -/
import Derived.Test.YtfoaneckegkhcaaUaSmall
namespace Go.Proofs.Ytfoaneckegkhcaa.Ua
open Go.RowKit

theorem ret_three {a b : Int} {p q : Bool} {c d : Int} {k : IntKind} (h1 : a = b) (h2 : p = q) (h3 : c = d) : Ending.returned (.tuple #[.int k a, .bool p, .int .i64 c]) = .returned (.tuple #[.int k b, .bool q, .int .i64 d]) := by rw [h1, h2, h3]
theorem of_bad {F : Nat → Bool} (h : bad F = true) : 0 = tb F ∧ false = tp F ∧ 2 = te F := by unfold tb tp te; rw [h]; exact ⟨rfl, rfl, rfl⟩
theorem of_good {F : Nat → Bool} (h : bad F = false) : (val F 8 : Int) = tb F ∧ par F 9 = tp F ∧ 0 = te F := by unfold tb tp te; rw [h]; exact ⟨rfl, rfl, rfl⟩

end Go.Proofs.Ytfoaneckegkhcaa.Ua
