/- What it is for a slice of steps to lie in memory: it is empty, or its cells hold the steps' ticks and rates. -/
import Derived.Test.YtfoaneckegkhcaaTkMath
import Derived.WalkKit
namespace Go.Proofs.Ytfoaneckegkhcaa.Tk
open Go.RowKit

/-- The slice v reads in world w as the n steps (A i, R i). -/
def Steps (w : World) (v : Value) (n : Nat) (A R : Nat → Int) : Prop :=
  (∃ (a : Option Addr) (cap : Nat), v = .slice a 0 cap ∧ cap ≤ maxLen ∧ n = 0) ∨
  ∃ (b off cap : Nat), v = .slice (some ⟨b, off, none⟩) n cap ∧ n ≤ cap ∧ cap ≤ maxLen ∧
    ∀ i, i < n → w.cell? ⟨b, off + i * 2, none⟩ = some (.int .i64 (A i)) ∧ w.cell? ⟨b, off + i * 2 + 1, none⟩ = some (.int .i64 (R i))

theorem Steps.below {w w' : World} {v : Value} {n : Nat} {A R : Nat → Int} (h : Steps w v n A R) (b : Below w.heap.size w w') : Steps w' v n A R := by
  rcases h with h | ⟨b0, off, cap, e, h1, h2, hc⟩
  · exact .inl h
  · refine .inr ⟨b0, off, cap, e, h1, h2, fun i hi => ?_⟩
    obtain ⟨c1, c2⟩ := hc i hi
    exact ⟨(b.cell (World.block_lt_of_cell? _ _ c1)).trans c1, (b.cell (World.block_lt_of_cell? _ _ c2)).trans c2⟩

end Go.Proofs.Ytfoaneckegkhcaa.Tk
