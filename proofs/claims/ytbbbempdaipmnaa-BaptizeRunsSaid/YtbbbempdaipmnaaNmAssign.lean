/- Names given one by one: name.Assign, and the document's. -/
import Derived.Test.YtbbbempdaipmnaaNmCode
namespace Go.Proofs.Ytbbbempdaipmnaa.Nm
open Go.RowKit
open Go.Proofs.Ytbbbempdaipmnaa.Rw (Rd Ow At)
open Go.Proofs.Ytbbbempdaipmnaa.Fl (ret_bool at_bool row_cell)
attribute [local irreducible] Sd.wpSd wpQuiet Sz.wpSz

def asL (l : List S) (most : Int) : List S := (asg (l.length + 1) l most).1
def asE (l : List S) (most : Int) : Int := (asg (l.length + 1) l most).2
def AssignPost (w : World) (l : List S) (most : Int) (e : Ending) (w' : World) : Prop := ∃ u, e = .returned (.tuple #[u, .int .i64 (asE l most)]) ∧ Ow KV w' w.heap.size 41 u (asL l most) ∧ Below w.heap.size w w'
theorem fr_le (l : List S) (most : Int) : fr l most ≤ 254 := by
  rcases Nat.eq_zero_or_pos (fr l most) with h | h
  · omega
  · have := (frF_some (l := l) (most := most) (f := 254) (n := 1) (by omega) h).2.1
    change fr l most < 1 + 254 at this
    omega
theorem fr_pos {l : List S} {most : Int} : frB l most = true ↔ 0 < fr l most := by unfold frB; exact decide_eq_true_iff
/-- So far. -/
structure As (w : World) (B : Nat) (l : List S) (most : Int) (v : Value) (f : Nat) (c : List S) (wr : World) : Prop where
  own : Ow KV wr B 41 v c
  bel : Below B w wr
  len : c.length = l.length
  fit : Fit c
  cnt : cn c < f
  eq : asg (l.length + 1) l most = asg f c most
section
variable {w wr w' : World} {B : Nat} {l c : List S} {most : Int} {v : Value} {f : Nat}
theorem As.below (h : As w B l most v f c wr) (b : Below wr.heap.size wr w') (hB : B ≤ wr.heap.size) : As w B l most v f c w' := ⟨h.own.keep b, h.bel.trans (b.mono hB), h.len, h.fit, h.cnt, h.eq⟩
theorem As.start (h : Ow KV wr w.heap.size 41 v l) (b : Below w.heap.size w wr) (F : Fit l) : As w w.heap.size l most v (l.length + 1) l wr := ⟨h, b, rfl, F, Nat.lt_succ_of_le (cn_le l), rfl⟩
theorem As.done (h : As w w.heap.size l most v f c wr) (e : ls c < 0) : AssignPost w l most (.returned (.tuple #[v, .int .i64 0])) wr := by
  obtain ⟨f, rfl⟩ : ∃ g, f = g + 1 := ⟨f - 1, by have := h.cnt; omega⟩
  have e2 := h.eq
  rw [asg_done e] at e2
  refine ⟨v, by unfold asE; rw [e2], ?_, h.bel⟩
  unfold asL
  rw [e2]
  exact h.own
theorem As.full (h : As w w.heap.size l most v f c wr) (e : ¬ ls c < 0) (e0 : fr c most = 0) : AssignPost w l most (.returned (.tuple #[v, .int .i64 11])) wr := by
  obtain ⟨f, rfl⟩ : ∃ g, f = g + 1 := ⟨f - 1, by have := h.cnt; omega⟩
  have e2 := h.eq
  rw [asg_full e e0] at e2
  refine ⟨v, by unfold asE; rw [e2], ?_, h.bel⟩
  unfold asL
  rw [e2]
  exact h.own
theorem As.next {g cap : Nat} {i : Nat} (h : As w B l most (.slice (some ⟨g, 0, none⟩) c.length cap) f c wr) (hi : i < c.length) (e : ls c = i) (e0 : 0 < fr c most) (hB : B ≤ g) (h0 : (sa c i).2 = 0) : As w B l most (.slice (some ⟨g, 0, none⟩) c.length cap) (f - 1) (c.set i ((sa c i).1, (fr c most : Int))) (wr.setCell ⟨g, i * 2 + 1, none⟩ (.int .i64 (fr c most))) ∧ f - 1 < f := by
  have hf := h.cnt
  obtain ⟨f, rfl⟩ : ∃ g, f = g + 1 := ⟨f - 1, by omega⟩
  have hc := cn_set (x := ((sa c i).1, (fr c most : Int))) hi h0 (by simp; omega)
  have hle := fr_le c most
  have hl : (c.set i ((sa c i).1, (fr c most : Int))).length = c.length := List.length_set
  have ho := Ow.set h.own i 1 hi (by decide) (.int .i64 (fr c most)) ((sa c i).1, (fr c most : Int)) rfl
  refine ⟨⟨ho, h.bel.setCell hB _, hl.trans h.len, h.fit.set hi ⟨(h.fit i hi).1, ?_, ?_⟩, ?_, ?_⟩, by omega⟩
  · show _ ≤ (fr c most : Int); omega
  · show (fr c most : Int) < _; omega
  · show cn _ < f + 1 - 1; omega
  · rw [h.eq, asg_next e e0]; rfl
end

end Go.Proofs.Ytbbbempdaipmnaa.Nm
