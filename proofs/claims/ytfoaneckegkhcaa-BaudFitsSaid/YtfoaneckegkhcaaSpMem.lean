/- Slices of structs of two integers in memory: one that is read, one that the call itself has made, and what appending to it and writing into it does. -/
import Derived.WalkKit
import Derived.Laws.AppendOwn
import Derived.OneCell
import Derived.Deep.Draws
import Derived.Lib.Hide
namespace Go.Proofs.Ytfoaneckegkhcaa.Sp
open Go.RowKit

abbrev S2 := Int × Int
def fr (l : List S2) (i : Nat) : Int := (l.getD i (0, 0)).1
def tp (l : List S2) (i : Nat) : Int := (l.getD i (0, 0)).2
def flat : List S2 → List Value
  | [] => []
  | s :: r => .int .i64 s.1 :: .int .i64 s.2 :: flat r

theorem flat_length : ∀ l : List S2, (flat l).length = l.length * 2
  | [] => rfl
  | s :: r => by simp [flat, flat_length r]; omega
theorem flat_append : ∀ a b : List S2, flat (a ++ b) = flat a ++ flat b
  | [], _ => rfl
  | s :: r, b => by simp [flat, flat_append r b]
theorem flat_one (l : List S2) : ∀ u ∈ flat l, u.oneCell' = true := by
  induction l with
  | nil => simp [flat]
  | cons s r ih =>
    intro u hu
    simp [flat] at hu
    rcases hu with rfl | rfl | hu
    · rfl
    · rfl
    · exact ih u hu
theorem flat_get : ∀ (l : List S2) (i : Nat), i < l.length → (flat l)[i * 2]? = some (.int .i64 (fr l i)) ∧ (flat l)[i * 2 + 1]? = some (.int .i64 (tp l i))
  | s :: r, 0, _ => ⟨rfl, rfl⟩
  | s :: r, i + 1, h => by
    have ih := flat_get r i (by simpa using h)
    have e : (i + 1) * 2 = i * 2 + 1 + 1 := by omega
    rw [e]
    exact ih

/-- The cells from off on in block b hold the list. -/
def At (w : World) (b off : Nat) (l : List S2) : Prop := ∀ i, i < l.length → w.cell? ⟨b, off + i * 2, none⟩ = some (.int .i64 (fr l i)) ∧ w.cell? ⟨b, off + i * 2 + 1, none⟩ = some (.int .i64 (tp l i))
/-- The slice v reads as the list. -/
def Sp (w : World) (v : Value) (l : List S2) : Prop := ∃ a cap, v = .slice a l.length cap ∧ l.length ≤ cap ∧ cap ≤ maxLen ∧ (0 < l.length → ∃ b off, a = some ⟨b, off, none⟩ ∧ At w b off l)
/-- The slice v is the call's own (its array lies from block B on) and reads as the list. -/
def Own (w : World) (B E : Nat) (v : Value) (l : List S2) : Prop := w.ownsRow B E 2 v l.length (flat l)

theorem At.below {w w' : World} {b off : Nat} {l : List S2} (h : At w b off l) (hb : Below w.heap.size w w') : At w' b off l := fun i hi => by
  obtain ⟨c1, c2⟩ := h i hi
  exact ⟨(hb.cell (World.block_lt_of_cell? _ _ c1)).trans c1, (hb.cell (World.block_lt_of_cell? _ _ c2)).trans c2⟩
theorem Sp.below {w w' : World} {v : Value} {l : List S2} (h : Sp w v l) (hb : Below w.heap.size w w') : Sp w' v l := by
  obtain ⟨a, cap, e, h1, h2, h3⟩ := h
  exact ⟨a, cap, e, h1, h2, fun hp => by obtain ⟨b, off, ea, hA⟩ := h3 hp; exact ⟨b, off, ea, hA.below hb⟩⟩
theorem Sp.slice {w : World} {v : Value} {l : List S2} (h : Sp w v l) : ∃ a cap, v = .slice a l.length cap ∧ cap ≤ maxLen := by
  obtain ⟨a, cap, e, _, h2, _⟩ := h
  exact ⟨a, cap, e, h2⟩

theorem Own.nil (w : World) (B E : Nat) : Own w B E (.slice none 0 0) [] := World.ownsRow_nil _ _ _ _
theorem Own.made (w : World) (B E : Nat) (hB : B ≤ w.heap.size) : Own (w.alloc (.cells #[] E)) B E (.slice (some ⟨w.heap.size, 0, none⟩) 0 0) [] :=
  World.ownsRow_made w #[] 0 hB (by unfold maxLen; omega) (by simp)
theorem Own.sp {w : World} {B E : Nat} {v : Value} {l : List S2} (h : Own w B E v l) : Sp w v l := by
  have hc := fun g hg j u => World.ownsRow.cells h (g := g) hg j u
  obtain ⟨_, h⟩ := h
  rcases h with ⟨rfl, h0⟩ | ⟨g, cap, cur, rfl, _, _, h1, h2, _⟩
  · exact ⟨none, 0, by rw [h0], by omega, by unfold maxLen; omega, fun h => by omega⟩
  · refine ⟨_, cap, rfl, h1, h2, fun _ => ⟨g, 0, rfl, fun i hi => ?_⟩⟩
    obtain ⟨g1, g2⟩ := flat_get l i hi
    have c1 := hc g rfl _ _ g1
    have c2 := hc g rfl _ _ g2
    simp only [Addr.add_lit] at c1 c2
    exact ⟨c1, by rw [← Nat.add_assoc] at c2; exact c2⟩
theorem Own.form {w : World} {B E : Nat} {v : Value} {l : List S2} (h : Own w B E v l) (hl : 0 < l.length) : ∃ g cap, v = .slice (some ⟨g, 0, none⟩) l.length cap ∧ B ≤ g ∧ g < w.heap.size ∧ l.length ≤ cap ∧ cap ≤ maxLen ∧ w.frozen? ⟨g, 0, none⟩ = false ∧
    (∀ i, i < l.length → w.cell? ⟨g, i * 2, none⟩ = some (.int .i64 (fr l i)) ∧ w.cell? ⟨g, i * 2 + 1, none⟩ = some (.int .i64 (tp l i)) ∧ w.frozen? ⟨g, i * 2, none⟩ = false ∧ w.frozen? ⟨g, i * 2 + 1, none⟩ = false) := by
  have hc := fun g hg j u => World.ownsRow.cells h (g := g) hg j u
  obtain ⟨_, h⟩ := h
  rcases h with ⟨_, h0⟩ | ⟨g, cap, cur, rfl, hB, hh, h1, h2, _⟩
  · omega
  · refine ⟨g, cap, rfl, hB, lt_of_block hh, h1, h2, by simp [World.frozen?, hh], fun i hi => ?_⟩
    obtain ⟨g1, g2⟩ := flat_get l i hi
    have c1 := hc g rfl _ _ g1
    have c2 := hc g rfl _ _ g2
    simp only [Addr.add_lit, Nat.zero_add] at c1 c2
    exact ⟨c1, c2, by simp [World.frozen?, hh], by simp [World.frozen?, hh]⟩
theorem Own.slice {w : World} {B E : Nat} {v : Value} {l : List S2} (h : Own w B E v l) : ∃ a cap, v = .slice a l.length cap ∧ l.length ≤ cap ∧ cap ≤ maxLen := by
  obtain ⟨_, h⟩ := h
  rcases h with ⟨rfl, h0⟩ | ⟨g, cap, cur, rfl, _, _, h1, h2, _⟩
  · exact ⟨none, 0, by rw [h0], by omega, by unfold maxLen; omega⟩
  · exact ⟨_, _, rfl, h1, h2⟩
theorem Own.alloc {w : World} {B E : Nat} {v : Value} {l : List S2} (h : Own w B E v l) (o : Obj) : Own (w.alloc o) B E v l := World.ownsRow.alloc h o
theorem Own.draw {w : World} {B E : Nat} {v : Value} {l : List S2} (h : Own w B E v l) (n : Nat) : Own (w.drewN n) B E v l := h
theorem Own.keep {w w' : World} {B E : Nat} {v : Value} {l : List S2} (h : Own w B E v l) (hb : Below w.heap.size w w') : Own w' B E v l := by
  obtain ⟨h1, h2⟩ := h
  refine ⟨h1, ?_⟩
  rcases h2 with h2 | ⟨g, cap, cur, e, hB, hh, r⟩
  · exact .inl h2
  · exact .inr ⟨g, cap, cur, e, hB, (hb.block g (lt_of_block hh)).trans hh, r⟩

theorem heap_setCell_same {w : World} {g j : Nat} {cur : Array Value} {E : TypeId} (hh : w.heap[g]? = some (.cells cur E (0, 0))) (u : Value) : (w.setCell ⟨g, j, none⟩ u).heap[g]? = some (.cells (cur.setIfInBounds j u) E (0, 0)) := by
  have hlt := lt_of_block hh
  have h' : w.heap[g] = .cells cur E (0, 0) := by simpa [Array.getElem?_eq_getElem hlt] using hh
  show (w.heap.modify g _)[g]? = _
  rw [Array.getElem?_eq_getElem (by simpa using hlt), Array.getElem_modify_self, h']
  rfl

theorem flat_set : ∀ (l : List S2) (i : Nat) (x : Int), i < l.length → (flat l).set (i * 2 + 1) (.int .i64 x) = flat (l.set i (fr l i, x))
  | s :: r, 0, x, _ => rfl
  | s :: r, i + 1, x, h => by
    have ih := flat_set r i x (by simpa using h)
    have e : (i + 1) * 2 + 1 = (i * 2 + 1) + 1 + 1 := by omega
    rw [e]
    show Value.int .i64 s.1 :: Value.int .i64 s.2 :: (flat r).set (i * 2 + 1) (.int .i64 x) = _
    rw [ih]
    rfl
/-- The second part of one of its structs is written anew. -/
theorem Own.set {w : World} {B E g cap : Nat} {l : List S2} (h : Own w B E (.slice (some ⟨g, 0, none⟩) l.length cap) l) (i : Nat) (hi : i < l.length) (x : Int) :
    Own (w.setCell ⟨g, i * 2 + 1, none⟩ (.int .i64 x)) B E (.slice (some ⟨g, 0, none⟩) l.length cap) (l.set i (fr l i, x)) := by
  obtain ⟨h1, h2⟩ := h
  refine ⟨by rw [flat_length], ?_⟩
  rcases h2 with ⟨e, _⟩ | ⟨g', cap', cur, e, hB, hh, k1, k2, k3, k4⟩
  · simp at e
  · injection e with e1 e2 e3
    injection e1 with e1
    injection e1 with e1
    subst e1 e3
    refine .inr ⟨_, _, _, by rw [List.length_set], hB, heap_setCell_same hh _, by rw [List.length_set]; exact k1, k2, by simp [k3], ?_⟩
    rw [← flat_set l i x hi, ← k4, List.length_set]
    simp [List.take_set]

/-- What grew of it: all below B is as it was. -/
theorem Own.grew {w0 w w' : World} {B E : Nat} {v : Value} {l : List S2} {o : Obj} (h : Own w B E v l) (hb : Below B w0 w) (hB : B ≤ w.heap.size) (hg : (w.alloc o).grownBy w' v.ownBlock) : Below B w0 w' :=
  (hb.alloc hB o).grown hg (by simp; omega) (fun k hk => (World.ownsRow.lt h k hk).1)
theorem Own.push {w' : World} {B E : Nat} {v' : Value} {l : List S2} {s : S2} (h : w'.ownsRow B E 2 v' (l.length + 1) (flat l ++ [.int .i64 s.1, .int .i64 s.2])) : Own w' B E v' (l ++ [s]) := by
  show w'.ownsRow B E 2 v' (l ++ [s]).length (flat (l ++ [s]))
  rw [flat_append, List.length_append]
  exact h

end Go.Proofs.Ytfoaneckegkhcaa.Sp
