/- Slices in memory, of elements that are so many single cells each (integers, bytes, structs and arrays of them): one that is read, one that the call itself has made, and what appending to it and writing into it does. -/
import Derived.WalkKit
import Derived.Laws.AppendOwn
import Derived.OwnWalk
import Derived.Laws.OwnMore
import Derived.BigQuiet
import Derived.OneCell
import Derived.Deep.Draws
import Derived.Lib.Hide
namespace Go.Proofs.Ytfbhmhgmebaoaaa.Rw
open Go.RowKit

/-- How an element lies in memory. -/
structure Kind (α : Type) where
  enc : α → List Value
  n : Nat
  pos : 0 < n
  len : ∀ a, (enc a).length = n
  one : ∀ a, ∀ u ∈ enc a, u.oneCell' = true
  dft : α
def int (k : IntKind) : Kind Int := ⟨fun z => [.int k z], 1, by decide, fun _ => rfl, fun _ u h => by simp at h; subst h; rfl, 0⟩

section
variable {α : Type} (K : Kind α)
def Kind.flat (l : List α) : List Value := l.flatMap K.enc
theorem flat_length : ∀ l : List α, (K.flat l).length = l.length * K.n
  | [] => by simp [Kind.flat]
  | s :: r => by
    have ih := flat_length r
    simp only [Kind.flat, List.flatMap_cons, List.length_append, K.len, List.length_cons] at ih ⊢
    rw [ih, Nat.add_mul, Nat.one_mul, Nat.add_comm]
theorem flat_append (a b : List α) : K.flat (a ++ b) = K.flat a ++ K.flat b := by simp [Kind.flat]
theorem flat_one (l : List α) : ∀ u ∈ K.flat l, u.oneCell' = true := fun u hu => by
  obtain ⟨a, _, h⟩ := List.mem_flatMap.1 hu
  exact K.one a u h
theorem flat_get : ∀ (l : List α) (i j : Nat), i < l.length → j < K.n → (K.flat l)[i * K.n + j]? = (K.enc (l.getD i K.dft))[j]?
  | s :: r, 0, j, _, hj => by
    show (K.enc s ++ K.flat r)[0 * K.n + j]? = (K.enc s)[j]?
    rw [Nat.zero_mul, Nat.zero_add, List.getElem?_append_left (by rw [K.len]; exact hj)]
  | s :: r, i + 1, j, h, hj => by
    have ih := flat_get r i j (by simpa using h) hj
    show (K.enc s ++ K.flat r)[(i + 1) * K.n + j]? = (K.enc (r.getD i K.dft))[j]?
    rw [List.getElem?_append_right (by rw [K.len, Nat.add_mul]; omega), K.len, show (i + 1) * K.n + j - K.n = i * K.n + j by rw [Nat.add_mul]; omega]
    exact ih

/-- The cells from off on in block b hold the list. -/
def At (w : World) (b off : Nat) (l : List α) : Prop := ∀ i, i < l.length → ∀ j u, (K.enc (l.getD i K.dft))[j]? = some u → w.cell? ⟨b, off + i * K.n + j, none⟩ = some u
/-- The slice v reads as the list. -/
def Rd (w : World) (v : Value) (l : List α) : Prop := ∃ a cap, v = .slice a l.length cap ∧ (l.length ≤ cap ∧ (a = none → cap = 0)) ∧ cap ≤ maxLen ∧ (0 < l.length → ∃ b off, a = some ⟨b, off, none⟩ ∧ At K w b off l)
/-- The slice v is the call's own (its array lies from block B on) and reads as the list. -/
def Ow (w : World) (B E : Nat) (v : Value) (l : List α) : Prop := w.ownsRow B E K.n v l.length (K.flat l)
variable {K}
variable {w w' : World} {B E : Nat} {v : Value} {l : List α}

theorem At.below {b off : Nat} (h : At K w b off l) (hb : Below w.heap.size w w') : At K w' b off l := fun i hi j u hu => (hb.cell (World.block_lt_of_cell? _ _ (h i hi j u hu))).trans (h i hi j u hu)
theorem Rd.below (h : Rd K w v l) (hb : Below w.heap.size w w') : Rd K w' v l := by
  obtain ⟨a, cap, e, h1, h2, h3⟩ := h
  exact ⟨a, cap, e, h1, h2, fun hp => by obtain ⟨b, off, ea, hA⟩ := h3 hp; exact ⟨b, off, ea, hA.below hb⟩⟩
theorem Rd.slice (h : Rd K w v l) : ∃ a cap, v = .slice a l.length cap ∧ cap ≤ maxLen := by
  obtain ⟨a, cap, e, _, h2, _⟩ := h
  exact ⟨a, cap, e, h2⟩
theorem Rd.nil (w : World) : Rd K w (.slice none 0 0) [] := ⟨none, 0, rfl, ⟨Nat.le_refl _, fun _ => rfl⟩, by unfold maxLen; omega, fun h => by simp at h⟩

theorem Ow.nil (w : World) (B E : Nat) : Ow K w B E (.slice none 0 0) [] := World.ownsRow_nil _ _ _ _
theorem Ow.made (w : World) (B E : Nat) (hB : B ≤ w.heap.size) : Ow K (w.alloc (.cells #[] E)) B E (.slice (some ⟨w.heap.size, 0, none⟩) 0 0) [] :=
  World.ownsRow_made w #[] 0 hB (by unfold maxLen; omega) (by simp)
theorem Ow.rd (h : Ow K w B E v l) : Rd K w v l := by
  have hc := fun g hg j u => World.ownsRow.cells h (g := g) hg j u
  obtain ⟨_, h⟩ := h
  rcases h with ⟨rfl, h0⟩ | ⟨g, cap, cur, rfl, _, _, h1, h2, _⟩
  · exact ⟨none, 0, by rw [h0], ⟨by omega, fun _ => rfl⟩, by unfold maxLen; omega, fun h => by omega⟩
  · refine ⟨_, cap, rfl, ⟨h1, nofun⟩, h2, fun _ => ⟨g, 0, rfl, fun i hi j u hu => ?_⟩⟩
    have hj : j < K.n := by have := (List.getElem?_eq_some_iff.1 hu).1; rw [K.len] at this; exact this
    have c := hc g rfl _ _ ((flat_get K l i j hi hj).trans hu)
    simp only [Addr.add_lit] at c
    rw [Nat.add_assoc]
    exact c
theorem Ow.form (h : Ow K w B E v l) (hl : 0 < l.length) : ∃ g cap, v = .slice (some ⟨g, 0, none⟩) l.length cap ∧ B ≤ g ∧ g < w.heap.size ∧ l.length ≤ cap ∧ cap ≤ maxLen ∧ (∀ k, w.frozen? ⟨g, k, none⟩ = false) ∧ At K w g 0 l := by
  have hr := h.rd
  obtain ⟨_, h⟩ := h
  rcases h with ⟨_, h0⟩ | ⟨g, cap, cur, rfl, hB, hh, h1, h2, _⟩
  · omega
  · refine ⟨g, cap, rfl, hB, lt_of_block hh, h1, h2, fun k => by simp [World.frozen?, hh], ?_⟩
    obtain ⟨a, cap', e, _, _, h3⟩ := hr
    obtain ⟨b, off, ea, hA⟩ := h3 hl
    subst ea
    injection e with e1 _ _
    injection e1 with e1
    injection e1 with e1 e2
    subst e1 e2
    exact hA
theorem Ow.slice (h : Ow K w B E v l) : ∃ a cap, v = .slice a l.length cap ∧ l.length ≤ cap ∧ cap ≤ maxLen := by
  obtain ⟨_, h⟩ := h
  rcases h with ⟨rfl, h0⟩ | ⟨g, cap, cur, rfl, _, _, h1, h2, _⟩
  · exact ⟨none, 0, by rw [h0], by omega, by unfold maxLen; omega⟩
  · exact ⟨_, _, rfl, h1, h2⟩
theorem Ow.alloc (h : Ow K w B E v l) (o : Obj) : Ow K (w.alloc o) B E v l := World.ownsRow.alloc h o
theorem Ow.draw (h : Ow K w B E v l) (n : Nat) : Ow K (w.drewN n) B E v l := h
theorem Ow.keep (h : Ow K w B E v l) (hb : Below w.heap.size w w') : Ow K w' B E v l := by
  obtain ⟨h1, h2⟩ := h
  refine ⟨h1, ?_⟩
  rcases h2 with h2 | ⟨g, cap, cur, e, hB, hh, r⟩
  · exact .inl h2
  · exact .inr ⟨g, cap, cur, e, hB, (hb.block g (lt_of_block hh)).trans hh, r⟩
theorem Ow.low {B' : Nat} (h : Ow K w B E v l) (hB : B' ≤ B) : Ow K w B' E v l := by
  obtain ⟨h1, h2⟩ := h
  refine ⟨h1, ?_⟩
  rcases h2 with h2 | ⟨g, cap, cur, e, hb, hh, r⟩
  · exact .inl h2
  · exact .inr ⟨g, cap, cur, e, by omega, hh, r⟩

theorem heap_setCell_same {g j : Nat} {cur : Array Value} {E : TypeId} (hh : w.heap[g]? = some (.cells cur E (0, 0))) (u : Value) : (w.setCell ⟨g, j, none⟩ u).heap[g]? = some (.cells (cur.setIfInBounds j u) E (0, 0)) := by
  have hlt := lt_of_block hh
  have h' : w.heap[g] = .cells cur E (0, 0) := by simpa [Array.getElem?_eq_getElem hlt] using hh
  show (w.heap.modify g _)[g]? = _
  rw [Array.getElem?_eq_getElem (by simpa using hlt), Array.getElem_modify_self, h']
  rfl
theorem flat_set : ∀ (l : List α) (i j : Nat) (u : Value) (s : α), i < l.length → j < K.n → K.enc s = (K.enc (l.getD i K.dft)).set j u → (K.flat l).set (i * K.n + j) u = K.flat (l.set i s)
  | a :: r, 0, j, u, s, _, hj, he => by
    show (K.enc a ++ K.flat r).set (0 * K.n + j) u = K.enc s ++ K.flat r
    have he' : K.enc s = (K.enc a).set j u := he
    rw [Nat.zero_mul, Nat.zero_add, List.set_append_left _ _ (by rw [K.len]; exact hj), he']
  | a :: r, i + 1, j, u, s, h, hj, he => by
    have ih := flat_set r i j u s (by simpa using h) hj he
    show (K.enc a ++ K.flat r).set ((i + 1) * K.n + j) u = K.enc a ++ K.flat (r.set i s)
    rw [List.set_append_right _ _ (by rw [K.len, Nat.add_mul]; omega), K.len, show (i + 1) * K.n + j - K.n = i * K.n + j by rw [Nat.add_mul]; omega, ih]
/-- One cell of one of its elements is written anew. -/
theorem Ow.set {g cap : Nat} (h : Ow K w B E (.slice (some ⟨g, 0, none⟩) l.length cap) l) (i j : Nat) (hi : i < l.length) (hj : j < K.n) (u : Value) (s : α) (he : K.enc s = (K.enc (l.getD i K.dft)).set j u) :
    Ow K (w.setCell ⟨g, i * K.n + j, none⟩ u) B E (.slice (some ⟨g, 0, none⟩) l.length cap) (l.set i s) := by
  obtain ⟨h1, h2⟩ := h
  refine ⟨by rw [flat_length], ?_⟩
  rcases h2 with ⟨e, _⟩ | ⟨g', cap', cur, e, hB, hh, k1, k2, k3, k4⟩
  · simp at e
  · injection e with e1 e2 e3
    injection e1 with e1
    injection e1 with e1
    subst e1 e3
    refine .inr ⟨_, _, _, by rw [List.length_set], hB, heap_setCell_same hh _, by rw [List.length_set]; exact k1, k2, by simp [k3], ?_⟩
    rw [← flat_set l i j u s hi hj he, ← k4, List.length_set]
    simp [List.take_set]
theorem Ow.push {v' : Value} {s : α} (h : w'.ownsRow B E K.n v' (l.length + 1) (K.flat l ++ K.enc s)) : Ow K w' B E v' (l ++ [s]) := by
  show w'.ownsRow B E K.n v' (l ++ [s]).length (K.flat (l ++ [s]))
  rw [flat_append, List.length_append]
  have e : K.flat [s] = K.enc s := by simp [Kind.flat]
  rw [e]
  exact h

/-- 'list = append(list, s)', of a list that is the call's own. -/
theorem push_step {P : Program} {ops : Array Oper} {rest : List Oper} {o : Oper} {a : Act} {Q : Exit → Act → World → Prop} {T : TypeId} {z : Value} {bytes : Nat} (ht : P.underlying T = some (.slice E))
    (hi : (P.info? E).map (fun i => (i.zero, i.size, i.bytes)) = some (some z, K.n, bytes)) (hz : z.cells.size = K.n) (hby : bytes ≤ 64) (hgd : o.guard = none) (s x : Operand)
    (ho : o.op = .call { callee := .builtin .append, args := #[s, x], argTypes := #[T, T] }) (B : Nat) (v : Value) (l : List α) (hs : a.eval s = v) (hown : Ow K w B E v l)
    (ad : Addr) (c : α) (hx : a.eval x = .slice (some ad) 1 1) (hc : ∀ j u, (K.enc c)[j]? = some u → w.cell? (ad.add j) = some u) (hlen : l.length < 2199023255552) (hB : B ≤ w.heap.size)
    (h : ∀ v' w', Ow K w' B E v' (l ++ [c]) → Below B w w' → wpList P ops Q rest (a.put o.dst v') w') : wpList P ops Q (o :: rest) a w := by
  obtain ⟨i0, hi0, hz0, hz1, hz2⟩ := info_parts hi
  have hb : (l.length + 1) * bytes ≤ 140737488355328 := Nat.le_trans (Nat.mul_le_mul (show l.length + 1 ≤ 2199023255552 by omega) hby) (by omega)
  refine wpList_append_own _ hgd s x T ho B E i0 z K.n bytes ht hi0 hz0 hz1 hz2 hz K.pos v l.length (K.flat l) hs hown ad 1 1 (K.enc c) hx (by rw [K.len, Nat.one_mul]) hc (K.one c) (by unfold maxLen; omega) hb hB ?_
  intro v' w' h2 h3 _
  exact h v' w' (Ow.push h2) ((Below.refl B w).grown h3 hB fun k hk => (World.ownsRow.lt hown k hk).1)

/-- What holds elements of another type is as it was. -/
def Far (E : TypeId) (w w' : World) : Prop := ∀ (g : Nat) (cs : Array Value) (t : TypeId), w.heap[g]? = some (Obj.cells cs t (0, 0)) → t ≠ E → w'.heap[g]? = some (Obj.cells cs t (0, 0))
theorem Far.refl (E : TypeId) (w : World) : Far E w w := fun _ _ _ h _ => h
theorem Ow.apart (h : Ow K w B E v l) {g : Nat} {cs : Array Value} {t : TypeId} (hg : w.heap[g]? = some (.cells cs t (0, 0))) (ht : t ≠ E) : v.ownBlock ≠ some g := by
  obtain ⟨_, h⟩ := h
  rcases h with ⟨rfl, _⟩ | ⟨k, cap, cur, rfl, _, hh, _⟩
  · simp [Value.ownBlock]
  · intro e
    simp only [Value.ownBlock, Option.some.injEq] at e
    subst e
    rw [hg] at hh
    injection hh with hh
    injection hh with _ h2 _
    exact ht h2
theorem far_grown (h : Ow K w B E v l) (hg : w.grownBy w' v.ownBlock) : Far E w w' := fun g cs t hh ht => by
  rw [hg.block g (lt_of_block hh) (fun e => h.apart hh ht e.symm)]
  exact hh
/-- A store into a block of another type leaves it as it is. -/
theorem Ow.far (h : Ow K w B E v l) {p : Addr} {cs : Array Value} {t : TypeId} (hp : w.heap[p.block]? = some (.cells cs t (0, 0))) (ht : t ≠ E) (u : Value) : Ow K (w.setCell p u) B E v l := by
  have ha := h.apart hp ht
  obtain ⟨h1, h2⟩ := h
  refine ⟨h1, ?_⟩
  rcases h2 with h2 | ⟨g, cap, cur, rfl, hB, hh, r⟩
  · exact .inl h2
  · have hne : g ≠ p.block := fun e => ha (by simp [Value.ownBlock, e])
    exact .inr ⟨g, cap, cur, rfl, hB, (Below.heap_setCell w p u g hne).trans hh, r⟩
theorem Ow.range (h : Ow K w B E v l) {g : Nat} (hg : g < B ∨ w.heap.size ≤ g) : v.ownBlock ≠ some g := fun e => by
  have := World.ownsRow.lt h g e
  omega
/-- A store into a block that is not its own. -/
theorem Ow.off (h : Ow K w B E v l) {p : Addr} (hp : v.ownBlock ≠ some p.block) (u : Value) : Ow K (w.setCell p u) B E v l := by
  obtain ⟨h1, h2⟩ := h
  refine ⟨h1, ?_⟩
  rcases h2 with h2 | ⟨g, cap, cur, rfl, hB, hh, r⟩
  · exact .inl h2
  · have hne : g ≠ p.block := fun e => hp (by simp [Value.ownBlock, e])
    exact .inr ⟨g, cap, cur, rfl, hB, (Below.heap_setCell w p u g hne).trans hh, r⟩
/-- A literal is the call's own. -/
theorem Ow.lit (w : World) (B E : Nat) (l : List α) (hB : B ≤ w.heap.size) (hm : l.length ≤ maxLen) : Ow K (w.alloc (.cells (K.flat l).toArray E)) B E (.slice (some ⟨w.heap.size, 0, none⟩) l.length l.length) l :=
  World.ownsRow_lit w _ l.length hB hm (by rw [List.size_toArray, flat_length])

/-- As push_step; and what holds elements of another type is as it was. -/
theorem push_far {P : Program} {ops : Array Oper} {rest : List Oper} {o : Oper} {a : Act} {Q : Exit → Act → World → Prop} {T : TypeId} {z : Value} {bytes : Nat} (ht : P.underlying T = some (.slice E))
    (hi : (P.info? E).map (fun i => (i.zero, i.size, i.bytes)) = some (some z, K.n, bytes)) (hz : z.cells.size = K.n) (hby : bytes ≤ 64) (hgd : o.guard = none) (s x : Operand)
    (ho : o.op = .call { callee := .builtin .append, args := #[s, x], argTypes := #[T, T] }) (B : Nat) (v : Value) (l : List α) (hs : a.eval s = v) (hown : Ow K w B E v l)
    (ad : Addr) (c : α) (hx : a.eval x = .slice (some ad) 1 1) (hc : ∀ j u, (K.enc c)[j]? = some u → w.cell? (ad.add j) = some u) (hlen : l.length < 2199023255552) (hB : B ≤ w.heap.size)
    (h : ∀ v' w', Ow K w' B E v' (l ++ [c]) → Below B w w' → Far E w w' → wpList P ops Q rest (a.put o.dst v') w') : wpList P ops Q (o :: rest) a w := by
  obtain ⟨i0, hi0, hz0, hz1, hz2⟩ := info_parts hi
  have hb : (l.length + 1) * bytes ≤ 140737488355328 := Nat.le_trans (Nat.mul_le_mul (show l.length + 1 ≤ 2199023255552 by omega) hby) (by omega)
  refine wpList_append_own _ hgd s x T ho B E i0 z K.n bytes ht hi0 hz0 hz1 hz2 hz K.pos v l.length (K.flat l) hs hown ad 1 1 (K.enc c) hx (by rw [K.len, Nat.one_mul]) hc (K.one c) (by unfold maxLen; omega) hb hB ?_
  intro v' w' h2 h3 _
  exact h v' w' (Ow.push h2) ((Below.refl B w).grown h3 hB fun k hk => (World.ownsRow.lt hown k hk).1) (far_grown hown h3)

/-- The elements of a list as cells, in a row. -/
theorem At.flat {b off : Nat} (h : At K w b off l) : ∀ j u, (K.flat l)[j]? = some u → w.cell? ⟨b, off + j, none⟩ = some u := fun j u hu => by
  have hj : j < l.length * K.n := by have := (List.getElem?_eq_some_iff.1 hu).1; rw [flat_length] at this; exact this
  have hi : j / K.n < l.length := Nat.div_lt_of_lt_mul (by rw [Nat.mul_comm]; exact hj)
  have hr : j % K.n < K.n := Nat.mod_lt _ K.pos
  have e : j / K.n * K.n + j % K.n = j := by rw [Nat.mul_comm]; exact Nat.div_add_mod _ _
  have g := flat_get K l (j / K.n) (j % K.n) hi hr
  rw [e] at g
  have c := h (j / K.n) hi (j % K.n) u (g.symm.trans hu)
  rw [Nat.add_assoc, e] at c
  exact c

/-- 'list = append(list, other...)', of a list that is the call's own, and one that is read. -/
theorem all_step {P : Program} {ops : Array Oper} {rest : List Oper} {o : Oper} {a : Act} {Q : Exit → Act → World → Prop} {T : TypeId} {z : Value} {bytes : Nat} (ht : P.underlying T = some (.slice E))
    (hi : (P.info? E).map (fun i => (i.zero, i.size, i.bytes)) = some (some z, K.n, bytes)) (hz : z.cells.size = K.n) (hby : bytes ≤ 64) (hgd : Region.wanted o (yielded ops a.tmps) = true) (s x : Operand)
    (ho : o.op = .call { callee := .builtin .append, args := #[s, x], argTypes := #[T, T] }) (B : Nat) (v : Value) (l : List α) (hs : a.eval s = v) (hown : Ow K w B E v l)
    (u : Value) (y : List α) (hx : a.eval x = u) (hu : Rd K w u y) (hlen : l.length + y.length < 2199023255552) (hB : B ≤ w.heap.size)
    (h : ∀ v' w', Ow K w' B E v' (l ++ y) → Below B w w' → wpList P ops Q rest (a.put o.dst v') w') : wpList P ops Q (o :: rest) a w := by
  obtain ⟨i0, hi0, hz0, hz1, hz2⟩ := info_parts hi
  obtain ⟨ad, cap, rfl, h1, h2, h3⟩ := hu
  have hb : (l.length + y.length) * bytes ≤ 140737488355328 := Nat.le_trans (Nat.mul_le_mul (show l.length + y.length ≤ 2199023255552 by omega) hby) (by omega)
  refine BigFrame.wpList_want hgd fun K' hK => ?_
  by_cases h0 : 0 < y.length
  · obtain ⟨b, off, rfl, hA⟩ := h3 h0
    refine wp_append_own _ s x T ho B E i0 z K.n bytes ht hi0 hz0 hz1 hz2 hz K.pos v l.length (K.flat l) hs hown ⟨b, off, none⟩ y.length cap (K.flat y) hx (flat_length K y) ?_ (flat_one K y) (by unfold maxLen; omega) hb hB ?_
    · intro j u hj
      have e : (⟨b, off, none⟩ : Addr).add j = ⟨b, off + j, none⟩ := by simp [Addr.add]
      rw [e]
      exact hA.flat j u hj
    · intro v' w' g2 g3 _
      refine hK _ _ (h v' w' ?_ ((Below.refl B w).grown g3 hB fun k hk => (World.ownsRow.lt hown k hk).1))
      show w'.ownsRow B E K.n v' (l ++ y).length (K.flat (l ++ y))
      rw [flat_append, List.length_append]
      exact g2
  · have ey : y = [] := List.length_eq_zero_iff.1 (by omega)
    subst ey
    cases ad with
    | none =>
      obtain rfl := h1.2 rfl
      have hrun := run_append_owned_none (P := P) (w := w) B T o.type E i0 K.n ht hi0 v l.length (K.flat l) hown
      unfold Oper.wp
      have hk := hK _ _ (h v w (by rw [List.append_nil]; exact hown) (Below.refl _ _))
      have hx' := hx
      simp [execOp, ho, resolve, invoke, builtin, hs, hx', hrun, Result.andThen]
      exact hk
    | some ad =>
      refine wp_append_own _ s x T ho B E i0 z K.n bytes ht hi0 hz0 hz1 hz2 hz K.pos v l.length (K.flat l) hs hown ad 0 cap [] hx (by simp) (by simp) (by simp) (by unfold maxLen; simp at hlen; omega) (by simpa using hb) hB ?_
      intro v' w' g2 g3 _
      refine hK _ _ (h v' w' ?_ ((Below.refl B w).grown g3 hB fun k hk => (World.ownsRow.lt hown k hk).1))
      show w'.ownsRow B E K.n v' (l ++ []).length (K.flat (l ++ []))
      rw [List.append_nil]
      simpa using g2

end
end Go.Proofs.Ytfbhmhgmebaoaaa.Rw
