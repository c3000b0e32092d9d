/- wire.High and wire.Fall, by what slices.IndexFunc and slices.ContainsFunc do at a list of spans. -/
import Derived.Test.YtfoaneckegkhcaaWiJoin
import Derived.Test.YtfoaneckegkhcaaWiRJoin
namespace Go.Proofs.Ytfoaneckegkhcaa.Wi
open Go.RowKit Go.Proofs.Ytfoaneckegkhcaa.Sp

/-- The first place at which p holds, or -1. -/
def idx (p : S2 → Bool) (l : List S2) : Int := match (List.range l.length).find? (fun i => p (fr l i, tp l i)) with
  | some i => i
  | none => -1
theorem idx_hit {p : S2 → Bool} {l : List S2} {i : Nat} (hi : i < l.length) (hp : p (fr l i, tp l i) = true) (hn : ∀ j, j < i → p (fr l j, tp l j) = false) : idx p l = i := by
  have e : (List.range l.length).find? (fun i => p (fr l i, tp l i)) = some i := by
    rw [List.find?_range_eq_some]
    exact ⟨hp, by simpa using hi, fun j hj => by simp [hn j hj]⟩
  simp [idx, e]
theorem idx_miss {p : S2 → Bool} {l : List S2} (hn : ∀ j, j < l.length → p (fr l j, tp l j) = false) : idx p l = -1 := by
  have e : (List.range l.length).find? (fun i => p (fr l i, tp l i)) = none := by
    rw [List.find?_eq_none]
    intro i hi
    simp [hn i (by simpa using hi)]
  simp [idx, e]
theorem idx_cases (p : S2 → Bool) (l : List S2) : (∃ i : Nat, i < l.length ∧ p (fr l i, tp l i) = true ∧ (∀ j, j < i → p (fr l j, tp l j) = false) ∧ idx p l = i) ∨ ((∀ j, j < l.length → p (fr l j, tp l j) = false) ∧ idx p l = -1) := by
  rcases h : (List.range l.length).find? (fun i => p (fr l i, tp l i)) with _ | i
  · right
    rw [List.find?_eq_none] at h
    have hn : ∀ j, j < l.length → p (fr l j, tp l j) = false := fun j hj => by simpa using h j (by simpa using hj)
    exact ⟨hn, idx_miss hn⟩
  · left
    rw [List.find?_range_eq_some] at h
    have hi : i < l.length := by simpa using h.2.1
    have hn : ∀ j, j < i → p (fr l j, tp l j) = false := fun j hj => by simpa using h.2.2 j hj
    exact ⟨i, hi, h.1, hn, idx_hit hi h.1 hn⟩
theorem idx_low (t : Int) (l : List S2) : decide (0 ≤ idx (inB t) l) = lowB l t := by
  rcases idx_cases (inB t) l with ⟨i, hi, hp, _, e⟩ | ⟨hn, e⟩
  · rw [e]
    have : lowB l t = true := lowB_iff.2 (low_iff.2 ⟨i, hi, by simpa [inB] using hp⟩)
    rw [this]; simp
  · rw [e]
    have : lowB l t = false := lowB_false.2 fun h => by
      obtain ⟨i, hi, h1, h2⟩ := low_iff.1 h
      have := hn i hi
      simp [inB, h1] at this
      omega
    rw [this]; simp

/-- What is asked of a predicate: it may make memory, but leaves all that was there. -/
def PredS (g : Nat) (lb : Array Value) (p : S2 → Bool) (w : World) : Prop :=
  ∀ (W : World) (a b : Int), Below w.heap.size w W → Calls Try.prog g (#[.agg #[.int .i64 a, .int .i64 b]] ++ lb) W fun e w' => e = .returned (.bool (p (a, b))) ∧ Below w.heap.size w w'

end Go.Proofs.Ytfoaneckegkhcaa.Wi
