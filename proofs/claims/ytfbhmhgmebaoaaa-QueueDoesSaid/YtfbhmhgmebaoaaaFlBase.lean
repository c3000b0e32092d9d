/- Whole records stored; the results of Do; where Do begins; slices.Clone of records. -/
import Derived.Test.YtfbhmhgmebaoaaaFlSmall
import Derived.Laws.MakeOwn
import Derived.Lib.BufferMore
namespace Go.Proofs.Ytfbhmhgmebaoaaa.Fl
open Go.RowKit
open Go.Proofs.Ytfbhmhgmebaoaaa.Rw (Rd Ow At)

def arr4 (r : R4) : Array Value := #[.int .u8 r.1, .int .u8 r.2.1, .int .u8 r.2.2.1, .int .u8 r.2.2.2]
/-- A whole record is stored. -/
def sto4 (w : World) (g o : Nat) (r : R4) : World := (((w.setCell ⟨g, o, none⟩ (.int .u8 r.1)).setCell ⟨g, o + 1, none⟩ (.int .u8 r.2.1)).setCell ⟨g, o + 2, none⟩ (.int .u8 r.2.2.1)).setCell ⟨g, o + 3, none⟩ (.int .u8 r.2.2.2)
theorem sto4_own {w : World} {B : Nat} {l : List R4} {g n cap : Nat} (h : Ow K4 w B 31 (.slice (some ⟨g, 0, none⟩) n cap) l) (hn : n = l.length) (i : Nat) (hi : i < l.length) (r : R4) :
    Ow K4 (sto4 w g (i * 4) r) B 31 (.slice (some ⟨g, 0, none⟩) n cap) (l.set i r) := by
  subst hn
  have get : ∀ (m : List R4) (s : R4), i < m.length → (m.set i s).getD i z4 = s := fun m s hm => by simp [List.getD, hm]
  have h1 := h.set i 0 hi (by decide) (.int .u8 r.1) (r.1, (l.getD i z4).2.1, (l.getD i z4).2.2.1, (l.getD i z4).2.2.2) rfl
  have l1 : i < (l.set i (r.1, (l.getD i z4).2.1, (l.getD i z4).2.2.1, (l.getD i z4).2.2.2)).length := by rw [List.length_set]; exact hi
  rw [show l.length = (l.set i (r.1, (l.getD i z4).2.1, (l.getD i z4).2.2.1, (l.getD i z4).2.2.2)).length by rw [List.length_set]] at h1
  have h2 := h1.set i 1 l1 (by decide) (.int .u8 r.2.1) (r.1, r.2.1, (l.getD i z4).2.2.1, (l.getD i z4).2.2.2) (by show _ = ((K4.enc ((l.set i _).getD i z4))).set 1 _; rw [get _ _ hi]; rfl)
  rw [List.set_set] at h2
  have l2 : i < (l.set i (r.1, r.2.1, (l.getD i z4).2.2.1, (l.getD i z4).2.2.2)).length := by rw [List.length_set]; exact hi
  rw [List.length_set, show l.length = (l.set i (r.1, r.2.1, (l.getD i z4).2.2.1, (l.getD i z4).2.2.2)).length by rw [List.length_set]] at h2
  have h3 := h2.set i 2 l2 (by decide) (.int .u8 r.2.2.1) (r.1, r.2.1, r.2.2.1, (l.getD i z4).2.2.2) (by show _ = ((K4.enc ((l.set i _).getD i z4))).set 2 _; rw [get _ _ hi]; rfl)
  rw [List.set_set] at h3
  have l3 : i < (l.set i (r.1, r.2.1, r.2.2.1, (l.getD i z4).2.2.2)).length := by rw [List.length_set]; exact hi
  rw [List.length_set, show l.length = (l.set i (r.1, r.2.1, r.2.2.1, (l.getD i z4).2.2.2)).length by rw [List.length_set]] at h3
  have h4 := h3.set i 3 l3 (by decide) (.int .u8 r.2.2.2) r (by show _ = ((K4.enc ((l.set i _).getD i z4))).set 3 _; rw [get _ _ hi]; rfl)
  rw [List.set_set] at h4
  rw [List.length_set] at h4
  exact h4
theorem sto4_row {w : World} {g : Nat} {q : R4} (h : w.heap[g]? = some (.cells (arr4 q) 31 (0, 0))) (r : R4) : (sto4 w g 0 r).heap[g]? = some (.cells (arr4 r) 31 (0, 0)) :=
  Rw.heap_setCell_same (Rw.heap_setCell_same (Rw.heap_setCell_same (Rw.heap_setCell_same h _) _) _) _
theorem sto4_other {w : World} {g k o : Nat} {r : R4} {x : Option Obj} (h : w.heap[k]? = x) (hne : k ≠ g) : (sto4 w g o r).heap[k]? = x :=
  (Below.heap_setCell _ _ _ _ hne).trans ((Below.heap_setCell _ _ _ _ hne).trans ((Below.heap_setCell _ _ _ _ hne).trans ((Below.heap_setCell _ _ _ _ hne).trans h)))
theorem sto4_below {w W : World} {B g o : Nat} {r : R4} (h : Below B w W) (hb : B ≤ g) : Below B w (sto4 W g o r) :=
  (((h.setCell (p := ⟨g, o, none⟩) hb _).setCell (p := ⟨g, o + 1, none⟩) hb _).setCell (p := ⟨g, o + 2, none⟩) hb _).setCell (p := ⟨g, o + 3, none⟩) hb _
theorem sto4_size (w : World) (g o : Nat) (r : R4) : (sto4 w g o r).heap.size = w.heap.size := by simp [sto4]
theorem sto4_off {w : World} {B g o : Nat} {v : Value} {l : List R4} (h : Ow K4 w B 31 v l) (hne : v.ownBlock ≠ some g) (r : R4) : Ow K4 (sto4 w g o r) B 31 v l :=
  (((h.off (p := ⟨g, o, none⟩) hne _).off (p := ⟨g, o + 1, none⟩) hne _).off (p := ⟨g, o + 2, none⟩) hne _).off (p := ⟨g, o + 3, none⟩) hne _
/-- A whole file is stored. -/
def sto2 (w : World) (g : Nat) (p : Int) (v : Value) : World := (w.setCell ⟨g, 0, none⟩ (.int .i64 p)).setCell ⟨g, 1, none⟩ v
theorem sto2_other {w : World} {g k : Nat} {p : Int} {v : Value} {x : Option Obj} (h : w.heap[k]? = x) (hne : k ≠ g) : (sto2 w g p v).heap[k]? = x :=
  (Below.heap_setCell _ _ _ _ hne).trans ((Below.heap_setCell _ _ _ _ hne).trans h)
theorem sto2_below {w W : World} {B g : Nat} {p : Int} {v : Value} (h : Below B w W) (hb : B ≤ g) : Below B w (sto2 W g p v) := (h.setCell (p := ⟨g, 0, none⟩) hb _).setCell (p := ⟨g, 1, none⟩) hb _
theorem sto2_size (w : World) (g : Nat) (p : Int) (v : Value) : (sto2 w g p v).heap.size = w.heap.size := by simp [sto2]
theorem sto2_off {w : World} {B g : Nat} {v u : Value} {l : List R4} (h : Ow K4 w B 31 v l) (hne : v.ownBlock ≠ some g) (p : Int) : Ow K4 (sto2 w g p u) B 31 v l :=
  (h.off (p := ⟨g, 0, none⟩) hne _).off (p := ⟨g, 1, none⟩) hne _

theorem flat_zero (n : Nat) : (madeCells #[.int .u8 0, .int .u8 0, .int .u8 0, .int .u8 0] (n * 4)).toList = K4.flat (List.replicate n z4) := by
  refine List.ext_getElem? fun k => ?_
  have hl : (K4.flat (List.replicate n z4)).length = n * 4 := by rw [Rw.flat_length, List.length_replicate]; rfl
  have hs : (madeCells #[.int .u8 0, .int .u8 0, .int .u8 0, .int .u8 0] (n * 4)).toList.length = n * 4 := by simp [madeCells]
  by_cases hk : k < n * 4
  · have e := Rw.flat_get K4 (List.replicate n z4) (k / 4) (k % 4) (by rw [List.length_replicate]; omega) (Nat.mod_lt _ (by decide))
    have e4 : k / 4 * K4.n + k % 4 = k := by show k / 4 * 4 + k % 4 = k; omega
    rw [e4] at e
    rw [e]
    have ez : (List.replicate n z4).getD (k / 4) K4.dft = z4 := by
      rw [List.getD_eq_getElem?_getD, List.getElem?_replicate]
      split <;> rfl
    rw [ez]
    have hm : k % 4 < 4 := Nat.mod_lt _ (by decide)
    simp only [madeCells, Array.getElem?_toList, Array.getElem?_map, Array.getElem?_range, hk, if_true, Option.map_some, List.size_toArray, List.length_cons, List.length_nil, Nat.zero_add, Nat.reduceAdd]
    rcases (by omega : k % 4 = 0 ∨ k % 4 = 1 ∨ k % 4 = 2 ∨ k % 4 = 3) with h | h | h | h <;> rw [h] <;> rfl
  · rw [List.getElem?_eq_none (by omega), List.getElem?_eq_none (by omega)]

def ClonePost (w : World) (l : List R4) (e : Ending) (w' : World) : Prop := ∃ u, e = .returned u ∧ Ow K4 w' w.heap.size 31 u l ∧ Below w.heap.size w w'
end Go.Proofs.Ytfbhmhgmebaoaaa.Fl
