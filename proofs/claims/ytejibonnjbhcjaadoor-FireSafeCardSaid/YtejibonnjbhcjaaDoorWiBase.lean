/- The small functions of layer 2: which span has ticks, which of two begins first; appending a span; the spans that a statement takes. -/
import Derived.Test.YtejibonnjbhcjaaDoorWiMath
import Derived.Test.YtejibonnjbhcjaaDoorChecked
import Derived.LoopTactic
import Derived.Outline
import Derived.Deep.LoopGhost
import Derived.BigQuiet
import Derived.Deep.QuietTactic
import Derived.WalkSmall
namespace Go.Proofs.YtejibonnjbhcjaaDoor.Wi
open Go.RowKit Go.Proofs.YtejibonnjbhcjaaDoor.Sp

theorem ret_bool {a b : Bool} (h : a = b) : Ending.returned (.bool a) = .returned (.bool b) := by rw [h]
theorem ret_int {a b : Int} (h : a = b) : Ending.returned (.int .i64 a) = .returned (.int .i64 b) := by rw [h]

theorem addr_zero (a : Addr) : a.add 0 = a := by cases a; simp [Addr.add]
def cmpI (a b : Int) : Int := if a < b then -1 else if b < a then 1 else 0
theorem near_snoc {l : List S2} {p q : Int} (h : Near l) (p0 : -1099511627776 ≤ p) (p1 : p ≤ 1099511627776) (q0 : -1099511627776 ≤ q) (q1 : q ≤ 1099511627776) : Near (l ++ [(p, q)]) := by
  have e : ∀ i, i < (l ++ [(p, q)]).length → (i < l.length ∧ fr (l ++ [(p, q)]) i = fr l i ∧ tp (l ++ [(p, q)]) i = tp l i) ∨ (fr (l ++ [(p, q)]) i = p ∧ tp (l ++ [(p, q)]) i = q) := fun i hi => by
    by_cases c : i < l.length
    · exact .inl ⟨c, by simp [fr, List.getD, List.getElem?_append_left c], by simp [tp, List.getD, List.getElem?_append_left c]⟩
    · have : i = l.length := by simp at hi; omega
      subst this
      exact .inr ⟨by simp [fr], by simp [tp]⟩
  refine ⟨fun i hi => ?_, fun i hi => ?_, fun i hi => ?_, fun i hi => ?_⟩
  · rcases e i hi with ⟨c, e1, e2⟩ | ⟨e1, e2⟩
    · rw [e1]; exact h.f0 i c
    · rw [e1]; exact p0
  · rcases e i hi with ⟨c, e1, e2⟩ | ⟨e1, e2⟩
    · rw [e1]; exact h.f1 i c
    · rw [e1]; exact p1
  · rcases e i hi with ⟨c, e1, e2⟩ | ⟨e1, e2⟩
    · rw [e2]; exact h.t0 i c
    · rw [e2]; exact q0
  · rcases e i hi with ⟨c, e1, e2⟩ | ⟨e1, e2⟩
    · rw [e2]; exact h.t1 i c
    · rw [e2]; exact q1
theorem near_nil : Near [] := ⟨fun i hi => by simp at hi, fun i hi => by simp at hi, fun i hi => by simp at hi, fun i hi => by simp at hi⟩

/-- Some few spans, none far off. -/
def Few (x : List S2) : Prop := x.length ≤ 20 ∧ Near x

end Go.Proofs.YtejibonnjbhcjaaDoor.Wi
