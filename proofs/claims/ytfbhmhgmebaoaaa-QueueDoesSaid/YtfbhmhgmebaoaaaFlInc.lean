/- file.oneMore. -/
import Derived.Test.YtfbhmhgmebaoaaaFlOne
import Derived.Test.YtfbhmhgmebaoaaaAb
namespace Go.Proofs.Ytfbhmhgmebaoaaa.Fl
open Go.RowKit Go.Shelf
attribute [local go_sem] Oper.semAt_some

theorem row_kept {A B : World} {row : Option Nat} {g : Nat} {cs : Array Value} {t : TypeId} (h : A.heap[g]? = some (.cells cs t (0, 0))) (hg : A.grownBy B row) (hr : ∀ r, row = some r → ∃ o : Obj, A.heap[r]? = some o ∧ o.isCells = false) : B.heap[g]? = some (.cells cs t (0, 0)) :=
  (grownBy_keeps_cells hg hr h rfl).trans h
theorem byt_put {W : World} {b : Nat} {q : R4} (h : RowAt W b q) : ∀ i, i < 4 → RowAt (W.setCell ⟨b, i, none⟩ (.int .u8 ((byt q i + 1) % 256))) b (bump q i) := fun i hi => by
  have := Rw.heap_setCell_same (j := i) h (.int .u8 ((byt q i + 1) % 256))
  rw [← wrap8] at this ⊢
  rcases (by omega : i = 0 ∨ i = 1 ∨ i = 2 ∨ i = 3) with rfl | rfl | rfl | rfl <;> exact this
theorem row_setOther {W : World} {b g i : Nat} {v : Value} {cs : Array Value} {t : TypeId} (h : W.heap[g]? = some (.cells cs t (0, 0))) (hne : g ≠ b) : (W.setCell ⟨b, i, none⟩ v).heap[g]? = some (.cells cs t (0, 0)) := (Below.heap_setCell W ⟨b, i, none⟩ v g hne).trans h
theorem byt_bump (q : R4) (i : Nat) (hi : i < 4) : byt (bump q i) i = (byt q i + 1) % 256 := by
  rw [← wrap8]
  rcases (by omega : i = 0 ∨ i = 1 ∨ i = 2 ∨ i = 3) with rfl | rfl | rfl | rfl <;> rfl
theorem res_put {W : World} {b : Nat} {q : R4} (h : RowAt W b z4) : RowAt ((((W.setCell ⟨b, 0, none⟩ (.int .u8 (byt q 0))).setCell ⟨b, 1, none⟩ (.int .u8 (byt q 1))).setCell ⟨b, 2, none⟩ (.int .u8 (byt q 2))).setCell ⟨b, 3, none⟩ (.int .u8 (byt q 3))) b q :=
  Rw.heap_setCell_same (Rw.heap_setCell_same (Rw.heap_setCell_same (Rw.heap_setCell_same h _) _) _) _
theorem oth_put {W : World} {b g : Nat} {q : R4} {o : Obj} (h : W.heap[g]? = some o) (hne : g ≠ b) : ((((W.setCell ⟨b, 0, none⟩ (.int .u8 (byt q 0))).setCell ⟨b, 1, none⟩ (.int .u8 (byt q 1))).setCell ⟨b, 2, none⟩ (.int .u8 (byt q 2))).setCell ⟨b, 3, none⟩ (.int .u8 (byt q 3))).heap[g]? = some o :=
  (Below.heap_setCell _ _ _ _ hne).trans ((Below.heap_setCell _ _ _ _ hne).trans ((Below.heap_setCell _ _ _ _ hne).trans ((Below.heap_setCell _ _ _ _ hne).trans h)))
theorem bel_put {w W : World} {b : Nat} {q : R4} (h : Below w.heap.size w W) (hb : w.heap.size ≤ b) : Below w.heap.size w ((((W.setCell ⟨b, 0, none⟩ (.int .u8 (byt q 0))).setCell ⟨b, 1, none⟩ (.int .u8 (byt q 1))).setCell ⟨b, 2, none⟩ (.int .u8 (byt q 2))).setCell ⟨b, 3, none⟩ (.int .u8 (byt q 3))) :=
  (((h.setCell (p := ⟨b, 0, none⟩) hb _).setCell (p := ⟨b, 1, none⟩) hb _).setCell (p := ⟨b, 2, none⟩) hb _).setCell (p := ⟨b, 3, none⟩) hb _

end Go.Proofs.Ytfbhmhgmebaoaaa.Fl
