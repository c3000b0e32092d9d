/- Whole records stored; the results of Do; where Do begins; slices.Clone of records. -/
import Derived.Test.YtabhpafmppmigaaFlSmall
import Derived.Laws.MakeOwn
import Derived.Lib.BufferMore
namespace Go.Proofs.Ytabhpafmppmigaa.Fl
open Go.RowKit
open Go.Proofs.Ytabhpafmppmigaa.Rw (Rd Ow At)

def arr4 (r : R4) : Array Value := #[.int .u8 r.1, .int .u8 r.2.1, .int .u8 r.2.2.1, .int .u8 r.2.2.2]
/-- A whole record is stored. -/
def sto4 (w : World) (g o : Nat) (r : R4) : World := (((w.setCell ⟨g, o, none⟩ (.int .u8 r.1)).setCell ⟨g, o + 1, none⟩ (.int .u8 r.2.1)).setCell ⟨g, o + 2, none⟩ (.int .u8 r.2.2.1)).setCell ⟨g, o + 3, none⟩ (.int .u8 r.2.2.2)
theorem sto4_other {w : World} {g k o : Nat} {r : R4} {x : Option Obj} (h : w.heap[k]? = x) (hne : k ≠ g) : (sto4 w g o r).heap[k]? = x :=
  (Below.heap_setCell _ _ _ _ hne).trans ((Below.heap_setCell _ _ _ _ hne).trans ((Below.heap_setCell _ _ _ _ hne).trans ((Below.heap_setCell _ _ _ _ hne).trans h)))
theorem sto4_below {w W : World} {B g o : Nat} {r : R4} (h : Below B w W) (hb : B ≤ g) : Below B w (sto4 W g o r) :=
  (((h.setCell (p := ⟨g, o, none⟩) hb _).setCell (p := ⟨g, o + 1, none⟩) hb _).setCell (p := ⟨g, o + 2, none⟩) hb _).setCell (p := ⟨g, o + 3, none⟩) hb _
theorem sto4_size (w : World) (g o : Nat) (r : R4) : (sto4 w g o r).heap.size = w.heap.size := by simp [sto4]
/-- A whole file is stored. -/
def sto2 (w : World) (g : Nat) (p : Int) (v : Value) : World := (w.setCell ⟨g, 0, none⟩ (.int .i64 p)).setCell ⟨g, 1, none⟩ v
theorem sto2_other {w : World} {g k : Nat} {p : Int} {v : Value} {x : Option Obj} (h : w.heap[k]? = x) (hne : k ≠ g) : (sto2 w g p v).heap[k]? = x :=
  (Below.heap_setCell _ _ _ _ hne).trans ((Below.heap_setCell _ _ _ _ hne).trans h)
theorem sto2_below {w W : World} {B g : Nat} {p : Int} {v : Value} (h : Below B w W) (hb : B ≤ g) : Below B w (sto2 W g p v) := (h.setCell (p := ⟨g, 0, none⟩) hb _).setCell (p := ⟨g, 1, none⟩) hb _
theorem sto2_size (w : World) (g : Nat) (p : Int) (v : Value) : (sto2 w g p v).heap.size = w.heap.size := by simp [sto2]
theorem flat_zero (n : Nat) : (madeCells #[.int .u8 0, .int .u8 0, .int .u8 0, .int .u8 0] (n * 4)).toList = K4.flat (List.replicate n z4) := by
  refine List.ext_getElem? fun k => ?_
  have hl : (K4.flat (List.replicate n z4)).length = n * 4 := by rw [Rw.flat_length, List.length_replicate]; rfl
  have hs : (madeCells #[.int .u8 0, .int .u8 0, .int .u8 0, .int .u8 0] (n * 4)).toList.length = n * 4 := by simp [madeCells]
  by_cases hk : k < n * 4
  · have e := Rw.flat_get K4 (List.replicate n z4) (k / 4) (k % 4) (by rw [List.length_replicate]; omega) (Nat.mod_lt _ (by decide))
    have e4 : k / 4 * K4.n + k % 4 = k := by show k / 4 * 4 + k % 4 = k; omega
    rw [e4] at e
    rw [e]
    have ez : (List.replicate n z4).getD (k / 4) K4.dft = z4 := by
      rw [List.getD_eq_getElem?_getD, List.getElem?_replicate]
      split <;> rfl
    rw [ez]
    have hm : k % 4 < 4 := Nat.mod_lt _ (by decide)
    simp only [madeCells, Array.getElem?_toList, Array.getElem?_map, Array.getElem?_range, hk, if_true, Option.map_some, List.size_toArray, List.length_cons, List.length_nil, Nat.zero_add, Nat.reduceAdd]
    rcases (by omega : k % 4 = 0 ∨ k % 4 = 1 ∨ k % 4 = 2 ∨ k % 4 = 3) with h | h | h | h <;> rw [h] <;> rfl
  · rw [List.getElem?_eq_none (by omega), List.getElem?_eq_none (by omega)]

end Go.Proofs.Ytabhpafmppmigaa.Fl
