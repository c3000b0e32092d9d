/- wire.Fall, and the document's own Fall. -/
import Derived.Test.YtkhgaacokbebiaaWiCalls
namespace Go.Proofs.Ytkhgaacokbebiaa.Wi
open Go.RowKit Go.Proofs.Ytkhgaacokbebiaa.Sp

def fallP (f t : Int) (s : S2) : Bool := decide (f ≤ s.1) && decide (s.1 < t)
def FallV (x : List S2) (f t : Int) : Int × Bool := if 0 ≤ idx (fallP f t) x then (fr x (idx (fallP f t) x).toNat, true) else (0, false)
theorem fall_hit {x : List S2} {f t : Int} {i : Nat} (e : idx (fallP f t) x = i) : FallV x f t = (fr x i, true) := by
  unfold FallV
  rw [e, if_pos (by omega)]
  simp
theorem fall_miss {x : List S2} {f t : Int} (e : idx (fallP f t) x = -1) : FallV x f t = (0, false) := by
  unfold FallV
  rw [e, if_neg (by omega)]
theorem ret_pair {v : Int × Bool} {a : Int} {b : Bool} (h : v = (a, b)) : Ending.returned (.tuple #[.int .i64 a, .bool b]) = .returned (.tuple #[.int .i64 v.1, .bool v.2]) := by subst h; rfl
/-- What a Fall hands back: of the one plain list. -/
def FallPost (w : World) (l : List S2) (f t : Int) (e : Ending) (w' : World) : Prop := ∃ x, PlainOf l x ∧ e = .returned (.tuple #[.int .i64 (FallV x f t).1, .bool (FallV x f t).2]) ∧ Below w.heap.size w w'

theorem rows_one {W : World} {v : Value} {l : List S2} (h : Sp W v l) : Rows (W.alloc (.cells #[v] 32)) (.slice (some ⟨W.heap.size, 0, none⟩) 1 1) [l] :=
  ⟨_, 1, rfl, Nat.le_refl _, by unfold maxLen; omega, fun _ => ⟨_, _, rfl, fun i hi => by
    have : i = 0 := by simp at hi; omega
    subst this
    exact ⟨v, by go_simp, h.below ((Below.refl _ _).alloc (Nat.le_refl _) _)⟩⟩⟩
theorem plain_one_of {l x : List S2} (h : JoinOf [l] x) : PlainOf l x := ⟨h.plain, fun t => by
  rw [h.low]
  constructor
  · rintro ⟨i, hi, c⟩
    have : i = 0 := by simp at hi; omega
    subst this
    exact c
  · exact fun c => ⟨0, by simp, c⟩⟩

end Go.Proofs.Ytkhgaacokbebiaa.Wi
