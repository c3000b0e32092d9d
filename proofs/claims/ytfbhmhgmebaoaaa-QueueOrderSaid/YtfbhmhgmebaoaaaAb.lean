/- Facts of worlds and rows that many texts want, in short. -/
import Derived.Lib.Hide
import Derived.WalkKit
namespace Go.Proofs.Ytfbhmhgmebaoaaa
open Go.RowKit
theorem bTr {w w1 w2 : World} (h : Below w.heap.size w w1) (b : Below w1.heap.size w1 w2) : Hid (Below w.heap.size w w2) := h.trans (b.mono h.size)
theorem bCe {w w' : World} {p : Addr} {v : Value} (b : Below w.heap.size w w') (c : w.cell? p = some v) : w'.cell? p = some v := (b.cell (World.block_lt_of_cell? _ _ c)).trans c
theorem bBl {w w' : World} {g : Nat} {o : Obj} (b : Below w.heap.size w w') (h : w.heap[g]? = some o) : w'.heap[g]? = some o := (b.block _ (lt_of_block h)).trans h
section
variable {w : World} {g : Nat} {cs : Array Value} {t : TypeId} {a b c d : Value} {l : List Value}
theorem rc1 (h : w.heap[g]? = some (.cells cs t (0, 0))) (k : Nat) (e : cs.toList.drop k = a :: l := by rfl) : w.cell? ⟨g, k, none⟩ = some a := by
  rw [cell_of_row w g k cs t (0, 0) h, ← Array.getElem?_toList]
  have := congrArg (·[0]?) e
  simpa using this
theorem rc2 (h : w.heap[g]? = some (.cells cs t (0, 0))) (e : cs.toList = a :: b :: l := by rfl) : w.cell? ⟨g, 0, none⟩ = some a ∧ w.cell? ⟨g, 1, none⟩ = some b := ⟨rc1 h 0 e, rc1 h 1 (congrArg (·.drop 1) e)⟩
theorem rc3 (h : w.heap[g]? = some (.cells cs t (0, 0))) (e : cs.toList = a :: b :: c :: l := by rfl) : w.cell? ⟨g, 0, none⟩ = some a ∧ w.cell? ⟨g, 1, none⟩ = some b ∧ w.cell? ⟨g, 2, none⟩ = some c := ⟨rc1 h 0 e, rc1 h 1 (congrArg (·.drop 1) e), rc1 h 2 (congrArg (·.drop 2) e)⟩
theorem rc4 (h : w.heap[g]? = some (.cells cs t (0, 0))) (e : cs.toList = a :: b :: c :: d :: l := by rfl) : w.cell? ⟨g, 0, none⟩ = some a ∧ w.cell? ⟨g, 1, none⟩ = some b ∧ w.cell? ⟨g, 2, none⟩ = some c ∧ w.cell? ⟨g, 3, none⟩ = some d := ⟨rc1 h 0 e, rc1 h 1 (congrArg (·.drop 1) e), rc1 h 2 (congrArg (·.drop 2) e), rc1 h 3 (congrArg (·.drop 3) e)⟩
theorem fz1 (h : w.heap[g]? = some (.cells cs t (0, 0))) (k : Nat) : w.frozen? ⟨g, k, none⟩ = false := frozen_of_row w g k _ _ h
theorem fz2 (h : w.heap[g]? = some (.cells cs t (0, 0))) : w.frozen? ⟨g, 0, none⟩ = false ∧ w.frozen? ⟨g, 1, none⟩ = false := ⟨fz1 h 0, fz1 h 1⟩
theorem fz4 (h : w.heap[g]? = some (.cells cs t (0, 0))) : w.frozen? ⟨g, 0, none⟩ = false ∧ w.frozen? ⟨g, 1, none⟩ = false ∧ w.frozen? ⟨g, 2, none⟩ = false ∧ w.frozen? ⟨g, 3, none⟩ = false := ⟨fz1 h 0, fz1 h 1, fz1 h 2, fz1 h 3⟩
theorem rf2 (h : w.heap[g]? = some (.cells cs t (0, 0))) (e : cs.toList = a :: b :: l := by rfl) : w.cell? ⟨g, 0, none⟩ = some a ∧ w.cell? ⟨g, 1, none⟩ = some b ∧ w.frozen? ⟨g, 0, none⟩ = false ∧ w.frozen? ⟨g, 1, none⟩ = false := ⟨(rc2 h e).1, (rc2 h e).2, fz1 h 0, fz1 h 1⟩
theorem rf4 (h : w.heap[g]? = some (.cells cs t (0, 0))) (e : cs.toList = a :: b :: c :: d :: l := by rfl) : w.cell? ⟨g, 0, none⟩ = some a ∧ w.cell? ⟨g, 1, none⟩ = some b ∧ w.cell? ⟨g, 2, none⟩ = some c ∧ w.cell? ⟨g, 3, none⟩ = some d ∧ w.frozen? ⟨g, 0, none⟩ = false ∧ w.frozen? ⟨g, 1, none⟩ = false ∧ w.frozen? ⟨g, 2, none⟩ = false ∧ w.frozen? ⟨g, 3, none⟩ = false := ⟨(rc4 h e).1, (rc4 h e).2.1, (rc4 h e).2.2.1, (rc4 h e).2.2.2, fz4 h⟩
end
end Go.Proofs.Ytfbhmhgmebaoaaa
