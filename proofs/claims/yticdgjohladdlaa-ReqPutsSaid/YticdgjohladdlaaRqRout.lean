/- Layer 21: the document's Good, outside the bounds. -/
import Derived.Test.YticdgjohladdlaaRqVal
import Derived.Test.YticdgjohladdlaaFlRef
import Derived.Test.YticdgjohladdlaaChecked
import Derived.LoopTactic
import Derived.Outline
import Derived.Deep.Draws
import Derived.Deep.Cut
namespace Go.Proofs.Yticdgjohladdlaa.Rq
open Go.RowKit
open Go.Proofs.Yticdgjohladdlaa.Rw (Rd Ow At)
open Go.Proofs.Yticdgjohladdlaa.Fl (R4 z4 K4 row_cell row_frozen)
set_option maxRecDepth 100000

/-- The bounds. -/
def bds (x : Q) : Prop := (0 ≤ x.id ∧ x.id ≤ 65535) ∧ (1 ≤ x.k ∧ x.k ≤ 4) ∧ (0 ≤ x.n ∧ x.n ≤ 31) ∧ (0 ≤ x.f ∧ x.f ≤ 63) ∧ (0 ≤ x.r ∧ x.r ≤ 255) ∧ 0 ≤ x.key ∧ x.key ≤ 255
set_option maxHeartbeats 8000000 in
theorem rgood_out (w : World) (x : Q) (hb : ¬ bds x) : Calls Try.prog 12 #[qV x] w fun e w' => e = .returned (.bool (goodB x)) ∧ Below w.heap.size w w' := by
  have B0 := Lib.hid ((Below.refl w.heap.size w).alloc (Nat.le_refl _) (.cells (qA x) 25))
  obtain ⟨id, k, n, f, r, ⟨v0, v1, v2, v3⟩, key⟩ := x
  unfold bds at hb
  unfold qV qA
  unfold qA at B0
  unfold goodB
  dsimp only at B0 hb ⊢
  rcases (by omega : id < 0 ∨ 0 ≤ id ∧ 65535 < id ∨ (0 ≤ id ∧ id ≤ 65535) ∧ k < 1 ∨ (0 ≤ id ∧ id ≤ 65535) ∧ 1 ≤ k ∧ 4 < k ∨ (0 ≤ id ∧ id ≤ 65535) ∧ (1 ≤ k ∧ k ≤ 4) ∧ (n < 0 ∨ 0 ≤ n ∧ 31 < n ∨ (0 ≤ n ∧ n ≤ 31) ∧ (f < 0 ∨ 0 ≤ f ∧ 63 < f ∨ (0 ≤ f ∧ f ≤ 63) ∧ (r < 0 ∨ 0 ≤ r ∧ 255 < r ∨ (0 ≤ r ∧ r ≤ 255) ∧ (key < 0 ∨ 0 ≤ key ∧ 255 < key))))) with h | ⟨h1, h⟩ | ⟨⟨h1, h2⟩, h⟩ | ⟨⟨h1, h2⟩, h3, h⟩ | ⟨⟨h1, h2⟩, ⟨h3, h4⟩, h | ⟨h5, h⟩ | ⟨⟨h5, h6⟩, h | ⟨h7, h⟩ | ⟨⟨h7, h8⟩, h | ⟨h9, h⟩ | ⟨⟨h9, h10⟩, h | ⟨h11, h⟩⟩⟩⟩⟩
  all_goals clear hb
  all_goals
    go_enter Try.func12, Try.ntmps12
    go_wp2
    go_ret
    exact ⟨ret_bool (by first | exact (decide_eq_true (show good _ from by unfold good; (try dsimp only); omega)).symm | exact (decide_eq_false (show ¬ good _ from by unfold good; (try dsimp only); omega)).symm | exact decide_eq_decide.2 (by unfold good; (try dsimp only); omega) | (rw [Bool.eq_iff_iff]; simp only [Bool.or_eq_true, Bool.and_eq_true, beq_iff_eq, decide_eq_true_eq]; unfold good; (try dsimp only); omega)), B0.out⟩

end Go.Proofs.Yticdgjohladdlaa.Rq
