/- Requests that wait: the mathematics of a queue. -/
import Derived.Test.YtfbhmhgmebaoaaaRqMath
namespace Go.Proofs.Ytfbhmhgmebaoaaa.Qe
open Go.Proofs.Ytfbhmhgmebaoaaa.Rq (Q zQ)

/-- A queue: who waits, and how often the first one was tried. -/
structure Qs where
  L : List Q
  t : Int
def ok (s : Qs) : Prop := s.L.length ≤ 8 ∧ (0 ≤ s.t ∧ s.t ≤ 2) ∧ (s.L = [] → s.t = 0)
def q0 : Qs := ⟨[], 0⟩
def fst (s : Qs) : Q := s.L.headD zQ
def has (s : Qs) : Bool := decide (0 < s.L.length)
def puE (s : Qs) : Int := if 8 ≤ s.L.length then 12 else 0
def puS (s : Qs) (x : Q) : Qs := if 8 ≤ s.L.length then s else ⟨s.L ++ [x], s.t⟩
def poS (s : Qs) : Qs := ⟨s.L.tail, 0⟩
def faB (s : Qs) : Bool := decide (0 < s.L.length ∧ s.t = 2)
def faV (s : Qs) : Q := if 0 < s.L.length ∧ s.t = 2 then fst s else zQ
def faS (s : Qs) : Qs := if 0 < s.L.length then (if s.t = 2 then poS s else ⟨s.L, s.t + 1⟩) else s
/-- How often each was tried. -/
def tr (s : Qs) : List Int := match s.L with
  | [] => []
  | _ :: r => s.t :: r.map fun _ => 0
theorem tr_len (s : Qs) : (tr s).length = s.L.length := by
  obtain ⟨L, t⟩ := s
  cases L <;> simp [tr]
theorem tr_push {s : Qs} (h : ok s) (x : Q) : tr ⟨s.L ++ [x], s.t⟩ = tr s ++ [0] := by
  obtain ⟨L, t⟩ := s
  cases L with
  | nil => have := h.2.2 rfl; simp only at this; subst this; rfl
  | cons a r => simp [tr]
theorem tr_pop {a : Q} {r : List Q} {t : Int} : tr (poS ⟨a :: r, t⟩) = r.map fun _ => 0 := by
  cases r <;> rfl
theorem ok_0 : ok q0 := ⟨by decide, ⟨by decide, by decide⟩, fun _ => rfl⟩
theorem ok_push {s : Qs} (h : ok s) (x : Q) : ok (puS s x) := by
  unfold puS
  by_cases h8 : 8 ≤ s.L.length
  · rw [if_pos h8]; exact h
  · rw [if_neg h8]
    exact ⟨by simp; omega, h.2.1, fun e => by simp at e⟩
theorem ok_pop {s : Qs} (h : ok s) : ok (poS s) := ⟨by have := h.1; simp [poS]; omega, ⟨Int.le_refl 0, show (0 : Int) ≤ 2 by decide⟩, fun _ => rfl⟩
theorem ok_fail {s : Qs} (h : ok s) : ok (faS s) := by
  unfold faS
  by_cases h0 : 0 < s.L.length
  · rw [if_pos h0]
    by_cases h2 : s.t = 2
    · rw [if_pos h2]; exact ok_pop h
    · rw [if_neg h2]
      have := h.2.1
      exact ⟨h.1, by dsimp only; omega, fun e => by rw [e] at h0; simp at h0⟩
  · rw [if_neg h0]; exact h
theorem pop_empty {s : Qs} (h : ok s) (e : s.L = []) : poS s = s := by
  obtain ⟨L, t⟩ := s
  subst e
  have := h.2.2 rfl
  simp only at this
  subst this
  rfl

end Go.Proofs.Ytfbhmhgmebaoaaa.Qe
