/- The table of codes at package level, as it lies in memory. -/
import Derived.Test.YtejibonnjbhcjaaDoorFiMath
import Derived.Test.YtejibonnjbhcjaaDoorChecked
import Derived.WalkKit
namespace Go.Proofs.YtejibonnjbhcjaaDoor.Fi
open Go.RowKit

/-- The codes' variable is a slice of eight bytes, the codes. -/
def Tab (w : World) : Prop := ∃ b off cap, w.cell? ⟨0, 0, none⟩ = some (.slice (some ⟨b, off, none⟩) 8 cap) ∧ 8 ≤ cap ∧ cap ≤ maxLen ∧ ∀ i : Nat, i < 8 → w.cell? ⟨b, off + i, none⟩ = some (.int .u8 (cd i))
theorem Tab.below {w w' : World} (h : Tab w) (hb : Below w.heap.size w w') : Tab w' := by
  obtain ⟨b, off, cap, h0, h1, h2, h3⟩ := h
  exact ⟨b, off, cap, (hb.cell (World.block_lt_of_cell? _ _ h0)).trans h0, h1, h2, fun i hi => (hb.cell (World.block_lt_of_cell? _ _ (h3 i hi))).trans (h3 i hi)⟩

end Go.Proofs.YtejibonnjbhcjaaDoor.Fi
