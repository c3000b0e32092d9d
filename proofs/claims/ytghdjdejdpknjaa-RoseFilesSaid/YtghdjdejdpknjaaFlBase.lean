/- Whole records stored; the results of Do; where Do begins; slices.Clone of records. -/
import Derived.Test.YtghdjdejdpknjaaFlSmall
import Derived.Laws.MakeOwn
import Derived.Lib.BufferMore
namespace Go.Proofs.Ytghdjdejdpknjaa.Fl
open Go.RowKit
open Go.Proofs.Ytghdjdejdpknjaa.Rw (Rd Ow At)

def arr4 (r : R4) : Array Value := #[.int .u8 r.1, .int .u8 r.2.1, .int .u8 r.2.2.1, .int .u8 r.2.2.2]
/-- A whole record is stored. -/
def sto4 (w : World) (g o : Nat) (r : R4) : World := (((w.setCell ⟨g, o, none⟩ (.int .u8 r.1)).setCell ⟨g, o + 1, none⟩ (.int .u8 r.2.1)).setCell ⟨g, o + 2, none⟩ (.int .u8 r.2.2.1)).setCell ⟨g, o + 3, none⟩ (.int .u8 r.2.2.2)
theorem sto4_own {w : World} {B : Nat} {l : List R4} {g n cap : Nat} (h : Ow K4 w B 47 (.slice (some ⟨g, 0, none⟩) n cap) l) (hn : n = l.length) (i : Nat) (hi : i < l.length) (r : R4) :
    Ow K4 (sto4 w g (i * 4) r) B 47 (.slice (some ⟨g, 0, none⟩) n cap) (l.set i r) := by
  subst hn
  have get : ∀ (m : List R4) (s : R4), i < m.length → (m.set i s).getD i z4 = s := fun m s hm => by simp [List.getD, hm]
  have h1 := h.set i 0 hi (by decide) (.int .u8 r.1) (r.1, (l.getD i z4).2.1, (l.getD i z4).2.2.1, (l.getD i z4).2.2.2) rfl
  have l1 : i < (l.set i (r.1, (l.getD i z4).2.1, (l.getD i z4).2.2.1, (l.getD i z4).2.2.2)).length := by rw [List.length_set]; exact hi
  rw [show l.length = (l.set i (r.1, (l.getD i z4).2.1, (l.getD i z4).2.2.1, (l.getD i z4).2.2.2)).length by rw [List.length_set]] at h1
  have h2 := h1.set i 1 l1 (by decide) (.int .u8 r.2.1) (r.1, r.2.1, (l.getD i z4).2.2.1, (l.getD i z4).2.2.2) (by show _ = ((K4.enc ((l.set i _).getD i z4))).set 1 _; rw [get _ _ hi]; rfl)
  rw [List.set_set] at h2
  have l2 : i < (l.set i (r.1, r.2.1, (l.getD i z4).2.2.1, (l.getD i z4).2.2.2)).length := by rw [List.length_set]; exact hi
  rw [List.length_set, show l.length = (l.set i (r.1, r.2.1, (l.getD i z4).2.2.1, (l.getD i z4).2.2.2)).length by rw [List.length_set]] at h2
  have h3 := h2.set i 2 l2 (by decide) (.int .u8 r.2.2.1) (r.1, r.2.1, r.2.2.1, (l.getD i z4).2.2.2) (by show _ = ((K4.enc ((l.set i _).getD i z4))).set 2 _; rw [get _ _ hi]; rfl)
  rw [List.set_set] at h3
  have l3 : i < (l.set i (r.1, r.2.1, r.2.2.1, (l.getD i z4).2.2.2)).length := by rw [List.length_set]; exact hi
  rw [List.length_set, show l.length = (l.set i (r.1, r.2.1, r.2.2.1, (l.getD i z4).2.2.2)).length by rw [List.length_set]] at h3
  have h4 := h3.set i 3 l3 (by decide) (.int .u8 r.2.2.2) r (by show _ = ((K4.enc ((l.set i _).getD i z4))).set 3 _; rw [get _ _ hi]; rfl)
  rw [List.set_set] at h4
  rw [List.length_set] at h4
  exact h4
theorem sto4_row {w : World} {g : Nat} {q : R4} (h : w.heap[g]? = some (.cells (arr4 q) 47 (0, 0))) (r : R4) : (sto4 w g 0 r).heap[g]? = some (.cells (arr4 r) 47 (0, 0)) :=
  Rw.heap_setCell_same (Rw.heap_setCell_same (Rw.heap_setCell_same (Rw.heap_setCell_same h _) _) _) _
theorem sto4_other {w : World} {g k o : Nat} {r : R4} {x : Option Obj} (h : w.heap[k]? = x) (hne : k ≠ g) : (sto4 w g o r).heap[k]? = x :=
  (Below.heap_setCell _ _ _ _ hne).trans ((Below.heap_setCell _ _ _ _ hne).trans ((Below.heap_setCell _ _ _ _ hne).trans ((Below.heap_setCell _ _ _ _ hne).trans h)))
theorem sto4_below {w W : World} {B g o : Nat} {r : R4} (h : Below B w W) (hb : B ≤ g) : Below B w (sto4 W g o r) :=
  (((h.setCell (p := ⟨g, o, none⟩) hb _).setCell (p := ⟨g, o + 1, none⟩) hb _).setCell (p := ⟨g, o + 2, none⟩) hb _).setCell (p := ⟨g, o + 3, none⟩) hb _
theorem sto4_size (w : World) (g o : Nat) (r : R4) : (sto4 w g o r).heap.size = w.heap.size := by simp [sto4]
theorem sto4_off {w : World} {B g o : Nat} {v : Value} {l : List R4} (h : Ow K4 w B 47 v l) (hne : v.ownBlock ≠ some g) (r : R4) : Ow K4 (sto4 w g o r) B 47 v l :=
  (((h.off (p := ⟨g, o, none⟩) hne _).off (p := ⟨g, o + 1, none⟩) hne _).off (p := ⟨g, o + 2, none⟩) hne _).off (p := ⟨g, o + 3, none⟩) hne _
/-- A whole file is stored. -/
def sto2 (w : World) (g : Nat) (p : Int) (v : Value) : World := (w.setCell ⟨g, 0, none⟩ (.int .i64 p)).setCell ⟨g, 1, none⟩ v
theorem sto2_row {w : World} {g : Nat} {q : Int} {u : Value} (h : w.heap[g]? = some (.cells #[.int .i64 q, u] 25 (0, 0))) (p : Int) (v : Value) : (sto2 w g p v).heap[g]? = some (.cells #[.int .i64 p, v] 25 (0, 0)) :=
  Rw.heap_setCell_same (Rw.heap_setCell_same h _) _
theorem sto2_other {w : World} {g k : Nat} {p : Int} {v : Value} {x : Option Obj} (h : w.heap[k]? = x) (hne : k ≠ g) : (sto2 w g p v).heap[k]? = x :=
  (Below.heap_setCell _ _ _ _ hne).trans ((Below.heap_setCell _ _ _ _ hne).trans h)
theorem sto2_below {w W : World} {B g : Nat} {p : Int} {v : Value} (h : Below B w W) (hb : B ≤ g) : Below B w (sto2 W g p v) := (h.setCell (p := ⟨g, 0, none⟩) hb _).setCell (p := ⟨g, 1, none⟩) hb _
theorem sto2_size (w : World) (g : Nat) (p : Int) (v : Value) : (sto2 w g p v).heap.size = w.heap.size := by simp [sto2]
theorem sto2_off {w : World} {B g : Nat} {v u : Value} {l : List R4} (h : Ow K4 w B 47 v l) (hne : v.ownBlock ≠ some g) (p : Int) : Ow K4 (sto2 w g p u) B 47 v l :=
  (h.off (p := ⟨g, 0, none⟩) hne _).off (p := ⟨g, 1, none⟩) hne _

/-- What Do and its like hand back. -/
theorem results_do {fn : Func} {p q r : Tmp} (h : fn.results = #[.cell p 25, .cell q 47, .tmp r]) (tmps : Array Value) (w : World) (g1 g2 : Nat) (k : Int) (u : Value) (y : R4) (e : Int)
    (hp : tmps.getD p undef = .pointer (some ⟨g1, 0, none⟩)) (hq : tmps.getD q undef = .pointer (some ⟨g2, 0, none⟩)) (hr : tmps.getD r undef = .int .i64 e)
    (h1 : w.heap[g1]? = some (.cells #[.int .i64 k, u] 25 (0, 0))) (h2 : w.heap[g2]? = some (.cells (arr4 y) 47 (0, 0))) :
    (results fn tmps).run Try.prog w = .ok (.tuple #[file k u, rec4 y, .int .i64 e]) w := by
  have e1 := run_loadVar_row (P := Try.prog) w g1 25 25 #[.int .i64 k, u] (0, 0) _ h1 Try.underlying25 rfl (by show _ = some 2; kernel_rfl)
  have e2 := run_loadVar_row (P := Try.prog) w g2 47 47 (arr4 y) (0, 0) _ h2 Try.underlying47 rfl (by show _ = some 4; kernel_rfl)
  have hp' : tmps[p]?.getD undef = .pointer (some ⟨g1, 0, none⟩) := by simpa using hp
  have hq' : tmps[q]?.getD undef = .pointer (some ⟨g2, 0, none⟩) := by simpa using hq
  have hr' : tmps[r]?.getD undef = .int .i64 e := by simpa using hr
  simp only [results, h]
  simp [Sem.run_bind, Result.andThen, hp', hq', hr', asAddr, e1, e2, file, rec4, arr4]

/-- Where Do and its like stand when their parameters and results are laid. -/
structure Start (w : World) (p : Int) (v : Value) (x : R4) (W : World) : Prop where
  box : W.heap[w.heap.size]? = some (.cells #[.int .i64 p, v] 25 (0, 0))
  arg : W.heap[w.heap.size + 1]? = some (.cells (arr4 x) 47 (0, 0))
  res1 : W.heap[w.heap.size + 2]? = some (.cells #[.int .i64 0, .slice none 0 0] 25 (0, 0))
  res2 : W.heap[w.heap.size + 3]? = some (.cells (arr4 z4) 47 (0, 0))
  siz : w.heap.size + 4 ≤ W.heap.size
  bel : Below w.heap.size w W
theorem Start.mono {w W W' : World} {p : Int} {v : Value} {x : R4} (h : Start w p v x W) (b : Below W.heap.size W W') : Start w p v x W' :=
  have s := h.siz
  ⟨(b.block _ (by omega)).trans h.box, (b.block _ (by omega)).trans h.arg, (b.block _ (by omega)).trans h.res1, (b.block _ (by omega)).trans h.res2, Nat.le_trans h.siz b.size, h.bel.trans (b.mono (by omega))⟩
theorem Start.of (w : World) (p : Int) (v : Value) (x : R4) : Start w p v x ((((w.alloc (.cells #[.int .i64 p, v] 25)).alloc (.cells (arr4 x) 47)).alloc (.cells #[.int .i64 0, .slice none 0 0] 25)).alloc (.cells (arr4 z4) 47)) := by
  have z1 : ∀ a, (w.alloc a).heap.size = w.heap.size + 1 := fun a => by simp
  have z2 : ∀ a b, ((w.alloc a).alloc b).heap.size = w.heap.size + 2 := fun a b => by simp
  have z3 : ∀ a b c, (((w.alloc a).alloc b).alloc c).heap.size = w.heap.size + 3 := fun a b c => by simp
  refine ⟨?_, ?_, ?_, ?_, by simp, ((((Below.refl w.heap.size w).alloc (Nat.le_refl _) _).alloc (by simp) _).alloc (by simp; omega) _).alloc (by simp; omega) _⟩
  · exact (Below.heap_alloc _ _ _ (by rw [z3]; omega)).trans ((Below.heap_alloc _ _ _ (by rw [z2]; omega)).trans ((Below.heap_alloc _ _ _ (by rw [z1]; omega)).trans (heap_alloc_new w _)))
  · have := heap_alloc_new (w.alloc (.cells #[.int .i64 p, v] 25)) (.cells (arr4 x) 47)
    rw [z1] at this
    exact (Below.heap_alloc _ _ _ (by rw [z3]; omega)).trans ((Below.heap_alloc _ _ _ (by rw [z2]; omega)).trans this)
  · have := heap_alloc_new ((w.alloc (.cells #[.int .i64 p, v] 25)).alloc (.cells (arr4 x) 47)) (.cells #[.int .i64 0, .slice none 0 0] 25)
    rw [z2] at this
    exact (Below.heap_alloc _ _ _ (by rw [z3]; omega)).trans this
  · have := heap_alloc_new (((w.alloc (.cells #[.int .i64 p, v] 25)).alloc (.cells (arr4 x) 47)).alloc (.cells #[.int .i64 0, .slice none 0 0] 25)) (.cells (arr4 z4) 47)
    rw [z3] at this
    exact this

theorem flat_zero (n : Nat) : (madeCells #[.int .u8 0, .int .u8 0, .int .u8 0, .int .u8 0] (n * 4)).toList = K4.flat (List.replicate n z4) := by
  refine List.ext_getElem? fun k => ?_
  have hl : (K4.flat (List.replicate n z4)).length = n * 4 := by rw [Rw.flat_length, List.length_replicate]; rfl
  have hs : (madeCells #[.int .u8 0, .int .u8 0, .int .u8 0, .int .u8 0] (n * 4)).toList.length = n * 4 := by simp [madeCells]
  by_cases hk : k < n * 4
  · have e := Rw.flat_get K4 (List.replicate n z4) (k / 4) (k % 4) (by rw [List.length_replicate]; omega) (Nat.mod_lt _ (by decide))
    have e4 : k / 4 * K4.n + k % 4 = k := by show k / 4 * 4 + k % 4 = k; omega
    rw [e4] at e
    rw [e]
    have ez : (List.replicate n z4).getD (k / 4) K4.dft = z4 := by
      rw [List.getD_eq_getElem?_getD, List.getElem?_replicate]
      split <;> rfl
    rw [ez]
    have hm : k % 4 < 4 := Nat.mod_lt _ (by decide)
    simp only [madeCells, Array.getElem?_toList, Array.getElem?_map, Array.getElem?_range, hk, if_true, Option.map_some, List.size_toArray, List.length_cons, List.length_nil, Nat.zero_add, Nat.reduceAdd]
    rcases (by omega : k % 4 = 0 ∨ k % 4 = 1 ∨ k % 4 = 2 ∨ k % 4 = 3) with h | h | h | h <;> rw [h] <;> rfl
  · rw [List.getElem?_eq_none (by omega), List.getElem?_eq_none (by omega)]

def ClonePost (w : World) (l : List R4) (e : Ending) (w' : World) : Prop := ∃ u, e = .returned u ∧ Ow K4 w' w.heap.size 47 u l ∧ Below w.heap.size w w'
end Go.Proofs.Ytghdjdejdpknjaa.Fl
