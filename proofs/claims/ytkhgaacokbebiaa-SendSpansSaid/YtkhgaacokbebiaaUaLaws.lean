/- The two statements of layer 3, walked: UartFrames and UartRound answer true. -/
import Derived.Test.YtkhgaacokbebiaaUaAwake
import Derived.Test.YtkhgaacokbebiaaQb
namespace Go.Proofs.Ytkhgaacokbebiaa.Ua
open Go.RowKit

theorem ones_step (M : Int) (k : Nat) : (ones M (k + 1) : Int) = ones M k + M / 2 ^ k % 2 := by
  rw [ones, bit_mod]
  split <;> simp

end Go.Proofs.Ytkhgaacokbebiaa.Ua
