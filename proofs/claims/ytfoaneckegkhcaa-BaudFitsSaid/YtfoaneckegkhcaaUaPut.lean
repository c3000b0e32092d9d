/- uart.Put: a byte's frame. -/
import Derived.Test.YtfoaneckegkhcaaUaSmall
namespace Go.Proofs.Ytfoaneckegkhcaa.Ua
open Go.RowKit

theorem put_1 (b : Int) (i : Nat) : put b 1 i = false := by unfold put; rw [if_neg (by omega)]
theorem put_step (b : Int) (k : Nat) (h : 1 ≤ k) (i : Nat) : upd (put b k) k (bit b (k - 1)) i = put b (k + 1) i := by
  unfold upd put
  by_cases e : i = k
  · subst e; rw [if_pos rfl, if_pos (by omega)]
  · rw [if_neg e]
    by_cases c : 1 ≤ i ∧ i < k
    · rw [if_pos c, if_pos (by omega)]
    · rw [if_neg c, if_neg (by omega)]

def no (_ : Nat) : Bool := false
/-- What holds of the world in which the frame is made: the result's block, the frame's, and all else as it was. -/
def Two (w wr : World) (F : Nat → Bool) : Prop := Row wr w.heap.size no ∧ Row wr (w.heap.size + 1) F ∧ Below w.heap.size w wr
theorem Two.frame {w wr : World} {F : Nat → Bool} (h : Two w wr F) : Row wr (w.heap.size + 1) F := h.2.1
theorem Two.res {w wr : World} {F : Nat → Bool} (h : Two w wr F) : Row wr w.heap.size no := h.1
theorem two_new (w : World) (F : Nat → Bool) (h : ∀ i, i < 11 → false = F i) : Two w ((w.alloc (.cells (arr no) 41)).alloc (.cells (arr no) 41)) F := by
  refine ⟨(Row.new w no).alloc _, ?_, ((Below.refl _ _).alloc (Nat.le_refl _) _).alloc (by simp) _⟩
  have := Row.new (w.alloc (.cells (arr no) 41)) no
  have e : (w.alloc (.cells (arr no) 41)).heap.size = w.heap.size + 1 := by simp
  rw [e] at this
  exact this.to h
theorem Two.set_ {w wr : World} {F : Nat → Bool} (h : Two w wr F) (k : Nat) (hk : k < 11) (x : Bool) : Two w (wr.setCell ⟨w.heap.size + 1, k, none⟩ (.bool x)) (upd F k x) :=
  ⟨h.1.far (by simp) _, h.2.1.set_ k hk x, h.2.2.setCell (by simp) _⟩
theorem Two.below {w wr w1 : World} {F : Nat → Bool} (h : Two w wr F) (hb : Below wr.heap.size wr w1) : Two w w1 F :=
  ⟨h.1.below hb h.1.lt, h.2.1.below hb h.2.1.lt, h.2.2.trans (hb.mono h.2.2.size)⟩
theorem Two.to {w wr : World} {F G : Nat → Bool} (h : Two w wr F) (e : ∀ i, i < 11 → F i = G i) : Two w wr G := ⟨h.1, h.2.1.to e, h.2.2⟩

end Go.Proofs.Ytfoaneckegkhcaa.Ua
