/- Layer 21: the document's Good. -/
import Derived.Test.YticdgjohladdlaaRqRout
import Derived.Test.YticdgjohladdlaaFlRef
import Derived.Test.YticdgjohladdlaaChecked
import Derived.LoopTactic
import Derived.Outline
import Derived.Deep.Draws
import Derived.Deep.Cut
namespace Go.Proofs.Yticdgjohladdlaa.Rq
open Go.RowKit
open Go.Proofs.Yticdgjohladdlaa.Rw (Rd Ow At)
open Go.Proofs.Yticdgjohladdlaa.Fl (R4 z4 K4 row_cell row_frozen)
set_option maxRecDepth 100000

set_option maxHeartbeats 8000000 in
theorem rgood_in (w : World) (x : Q) (hb : bds x) : Calls Try.prog 12 #[qV x] w fun e w' => e = .returned (.bool (goodB x)) ∧ Below w.heap.size w w' := by
  have B0 := Lib.hid ((Below.refl w.heap.size w).alloc (Nat.le_refl _) (.cells (qA x) 25))
  obtain ⟨id, k, n, f, r, ⟨v0, v1, v2, v3⟩, key⟩ := x
  unfold bds at hb
  unfold qV qA
  unfold qA at B0
  unfold goodB
  dsimp only at B0 hb ⊢
  obtain ⟨⟨h1, h2⟩, ⟨h3, h4⟩, ⟨h5, h6⟩, ⟨h7, h8⟩, ⟨h9, h10⟩, h11, h12⟩ := hb
  rcases (by omega : k = 4 ∧ 0 < f ∨ k = 4 ∧ f = 0 ∧ 0 < r ∨ k = 2 ∨ k = 4 ∧ f = 0 ∧ r = 0 ∧ (v0 ≠ 0 ∨ v0 = 0 ∧ v1 ≠ 0 ∨ v0 = 0 ∧ v1 = 0 ∧ v2 ≠ 0 ∨ v0 = 0 ∧ v1 = 0 ∧ v2 = 0 ∧ v3 ≠ 0 ∨ v0 = 0 ∧ v1 = 0 ∧ v2 = 0 ∧ v3 = 0) ∨ (k ≠ 2 ∧ k ≠ 4) ∧ (v0 ≠ 0 ∨ v0 = 0 ∧ v1 ≠ 0 ∨ v0 = 0 ∧ v1 = 0 ∧ v2 ≠ 0 ∨ v0 = 0 ∧ v1 = 0 ∧ v2 = 0 ∧ v3 ≠ 0 ∨ v0 = 0 ∧ v1 = 0 ∧ v2 = 0 ∧ v3 = 0)) with ⟨rfl, h⟩ | ⟨rfl, rfl, h⟩ | rfl | ⟨rfl, rfl, rfl, h | ⟨rfl, h⟩ | ⟨rfl, rfl, h⟩ | ⟨rfl, rfl, rfl, h⟩ | ⟨rfl, rfl, rfl, rfl⟩⟩ | ⟨⟨h13, h14⟩, h | ⟨rfl, h⟩ | ⟨rfl, rfl, h⟩ | ⟨rfl, rfl, rfl, h⟩ | ⟨rfl, rfl, rfl, rfl⟩⟩
  all_goals
    go_enter Try.func12, Try.ntmps12
    go_wp2
    go_ret
    exact ⟨ret_bool (by first | exact (decide_eq_true (show good _ from by unfold good; (try dsimp only); omega)).symm | exact (decide_eq_false (show ¬ good _ from by unfold good; (try dsimp only); omega)).symm | exact decide_eq_decide.2 (by unfold good; (try dsimp only); omega) | (rw [Bool.eq_iff_iff]; simp only [Bool.or_eq_true, beq_iff_eq, decide_eq_true_eq]; unfold good; (try dsimp only); omega)), B0.out⟩

theorem rgood_any (w : World) (x : Q) : Calls Try.prog 12 #[qV x] w fun e w' => e = .returned (.bool (goodB x)) ∧ Below w.heap.size w w' := by
  by_cases hb : bds x
  · exact rgood_in w x hb
  · exact rgood_out w x hb

end Go.Proofs.Yticdgjohladdlaa.Rq
