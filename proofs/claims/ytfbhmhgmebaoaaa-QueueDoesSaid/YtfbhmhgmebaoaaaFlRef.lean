/- The document's own functions of layer 9: the header, new files, what may be, what is alike. -/
import Derived.Test.YtfbhmhgmebaoaaaFlMem
import Derived.Test.YtfbhmhgmebaoaaaAb
import Derived.Test.YtfbhmhgmebaoaaaQb
import Derived.Laws.Rows
import Derived.Deep.WholeRow
namespace Go.Proofs.Ytfbhmhgmebaoaaa.Fl
open Go.RowKit
open Go.Proofs.Ytfbhmhgmebaoaaa.Rw (Rd Ow At)

def sameF (p : Int) (l : List R4) (p' : Int) (l' : List R4) : Bool := decide (p = p' ∧ l = l')
theorem list_same {l l' : List R4} (hl : l.length = l'.length) (h : ∀ i, i < l.length → rat l i = rat l' i) : l = l' := by
  refine List.ext_getElem hl fun i h1 h2 => ?_
  have := h i h1
  simpa [rat, List.getD, List.getElem?_eq_getElem h1, List.getElem?_eq_getElem h2] using this

/-- What a new file is. -/
def newP (p n : Int) : Prop := 0 ≤ p ∧ p ≤ 7 ∧ 0 ≤ n ∧ n ≤ 255
instance (p n : Int) : Decidable (newP p n) := by unfold newP; infer_instance
def newL (p n : Int) : List R4 := hdr p n :: List.replicate n.toNat z4
def NewPost (w : World) (p n : Int) (e : Ending) (w' : World) : Prop := ∃ v, e = .returned (.tuple #[file (if newP p n then p else 0) v, .int .i64 (if newP p n then 0 else 1)]) ∧ Rd K4 w' v (if newP p n then newL p n else []) ∧ Below w.heap.size w w'

theorem row_cell {w : World} {g : Nat} {cs : Array Value} {t : TypeId} (h : w.heap[g]? = some (.cells cs t (0, 0))) (k : Nat) : w.cell? ⟨g, k, none⟩ = cs[k]? := cell_of_row w g k cs t (0, 0) h
theorem rc {w : World} {g : Nat} {cs : Array Value} {t : TypeId} (h : w.heap[g]? = some (.cells cs t (0, 0))) (k : Nat) {v : Value} {l : List Value} (e : cs.toList.drop k = v :: l := by rfl) : w.cell? ⟨g, k, none⟩ = some v := by
  have e2 := congrArg List.head? e
  rw [List.head?_drop, Array.getElem?_toList] at e2
  exact (row_cell h k).trans e2
theorem row_frozen {w : World} {g : Nat} {cs : Array Value} {t : TypeId} (h : w.heap[g]? = some (.cells cs t (0, 0))) (k : Nat) : w.frozen? ⟨g, k, none⟩ = false := frozen_of_row w g k _ _ h
end Go.Proofs.Ytfbhmhgmebaoaaa.Fl
