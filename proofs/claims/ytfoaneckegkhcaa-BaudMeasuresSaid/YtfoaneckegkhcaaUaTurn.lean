/- uart.Turn: a frame of which some bits are turned. -/
import Derived.Test.YtfoaneckegkhcaaUaPut
namespace Go.Proofs.Ytfoaneckegkhcaa.Ua
open Go.RowKit

theorem turn_0 (F : Nat → Bool) (m : Int) (i : Nat) : turn F m 0 i = F i := by unfold turn; rw [if_neg (by omega)]
theorem turn_yes {F : Nat → Bool} {m : Int} {k : Nat} (h : bit m k = true) (i : Nat) : upd (turn F m k) k (!turn F m k k) i = turn F m (k + 1) i := by
  unfold upd turn
  by_cases e : i = k
  · subst e; rw [if_pos rfl, if_neg (by omega), if_pos (by omega), h]; simp
  · rw [if_neg e]
    by_cases c : i < k
    · rw [if_pos c, if_pos (by omega)]
    · rw [if_neg c, if_neg (by omega)]
theorem turn_no {F : Nat → Bool} {m : Int} {k : Nat} (h : bit m k = false) (i : Nat) : turn F m k i = turn F m (k + 1) i := by
  unfold turn
  by_cases e : i = k
  · subst e; rw [if_neg (by omega), if_pos (by omega), h]; simp
  · by_cases c : i < k
    · rw [if_pos c, if_pos (by omega)]
    · rw [if_neg c, if_neg (by omega)]

/-- What holds of the world in which a frame that was handed in is turned: its own block, the result's, and all else as it was. -/
def Own2 (w wr : World) (F : Nat → Bool) : Prop := Row wr w.heap.size F ∧ Row wr (w.heap.size + 1) no ∧ Below w.heap.size w wr
theorem own2_new (w : World) (F : Nat → Bool) : Own2 w ((w.alloc (.cells (arr F) 41)).alloc (.cells (arr no) 41)) F := by
  refine ⟨(Row.new w F).alloc _, ?_, ((Below.refl _ _).alloc (Nat.le_refl _) _).alloc (by simp) _⟩
  have := Row.new (w.alloc (.cells (arr F) 41)) no
  have e : (w.alloc (.cells (arr F) 41)).heap.size = w.heap.size + 1 := by simp
  rw [e] at this
  exact this
theorem Own2.set_ {w wr : World} {F : Nat → Bool} (h : Own2 w wr F) (k : Nat) (hk : k < 11) (x : Bool) : Own2 w (wr.setCell ⟨w.heap.size, k, none⟩ (.bool x)) (upd F k x) :=
  ⟨h.1.set_ k hk x, h.2.1.far (by simp) _, h.2.2.setCell (by simp) _⟩
theorem Own2.to {w wr : World} {F G : Nat → Bool} (h : Own2 w wr F) (e : ∀ i, i < 11 → F i = G i) : Own2 w wr G := ⟨h.1.to e, h.2.1, h.2.2⟩

end Go.Proofs.Ytfoaneckegkhcaa.Ua
