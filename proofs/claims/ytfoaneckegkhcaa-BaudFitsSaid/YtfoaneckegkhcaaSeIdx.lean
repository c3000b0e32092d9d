/- A frame's level, read out of the array. -/
import Derived.Test.YtfoaneckegkhcaaUaMem
namespace Go.Proofs.Ytfoaneckegkhcaa.Ua
open Go.RowKit
theorem run_index_arr (F : Nat → Bool) (k : Nat) (h : k < 11) (w : World) : (Instr.index 41 (.agg (arr F)) (.int .i64 k)).run Try.prog w = .ok (.bool (F k)) w := by
  have hg := arr_get F k h
  have hk : ¬ 11 ≤ k := by omega
  simp [Instr.index, asIntOf, run_underlying Try.underlying41, go_sem, part, hg, hk]
end Go.Proofs.Ytfoaneckegkhcaa.Ua
