/- What tick.Good answers: whether the steps may be. -/
import Derived.Test.YtfoaneckegkhcaaTkMem
import Derived.Test.YtfoaneckegkhcaaChecked
import Derived.LoopTactic
import Derived.Outline
import Derived.Deep.LoopGhost
import Derived.Deep.Draws
import Derived.Lib.Hide
namespace Go.Proofs.Ytfoaneckegkhcaa.Tk
open Go.RowKit

def prev (A : Nat → Int) : Nat → Int
  | 0 => -1
  | k + 1 => A k

structure GoodTo (A R : Nat → Int) (k : Nat) : Prop where
  at_ : ∀ i, i < k → 0 ≤ A i ∧ A i ≤ 4294967296
  rate : ∀ i, i < k → -20000 ≤ R i ∧ R i ≤ 20000
  up : ∀ i, i + 1 < k → A i < A (i + 1)

theorem GoodTo.zero (A R : Nat → Int) : GoodTo A R 0 := ⟨fun i h => by omega, fun i h => by omega, fun i h => by omega⟩
theorem GoodTo.lo {A R : Nat → Int} {k : Nat} (g : GoodTo A R k) : -1 ≤ prev A k := by
  cases k with
  | zero => exact Int.le_refl _
  | succ k => have := (g.at_ k (by omega)).1; show -1 ≤ A k; omega
theorem GoodTo.step {A R : Nat → Int} {k : Nat} (g : GoodTo A R k) (h1 : ¬ A k ≤ prev A k) (h2 : ¬ 4294967296 < A k) (h3 : ¬ R k < -20000) (h4 : ¬ 20000 < R k) : GoodTo A R (k + 1) := by
  have l := g.lo
  refine ⟨fun i hi => ?_, fun i hi => ?_, fun i hi => ?_⟩
  · by_cases e : i = k
    · subst e; omega
    · exact g.at_ i (by omega)
  · by_cases e : i = k
    · subst e; omega
    · exact g.rate i (by omega)
  · by_cases e : i + 1 = k
    · subst e; have : prev A (i + 1) = A i := rfl; omega
    · exact g.up i (by omega)
theorem GoodTo.all {A R : Nat → Int} {n : Nat} (g : GoodTo A R n) (h : n ≤ 64) : GoodP n A R := ⟨h, g.at_, g.rate, g.up⟩
theorem bad {A R : Nat → Int} {n k : Nat} (hk : k < n) (h : A k ≤ prev A k ∨ 4294967296 < A k ∨ R k < -20000 ∨ 20000 < R k) : goodB n A R = false := by
  refine goodB_no fun g => ?_
  have a := g.at_ k hk
  have r := g.rate k hk
  rcases h with h | h | h | h
  · cases k with
    | zero => have : prev A 0 = -1 := rfl; omega
    | succ k => have := g.up k hk; have : prev A (k + 1) = A k := rfl; omega
  · omega
  · omega
  · omega

theorem ret_bool {a b : Bool} (h : a = b) : Ending.returned (.bool a) = .returned (.bool b) := by rw [h]
theorem ret_int {a b : Int} (h : a = b) : Ending.returned (.int .i64 a) = .returned (.int .i64 b) := by rw [h]

end Go.Proofs.Ytfoaneckegkhcaa.Tk
